/- Q15: GvL, Q03. -/
import Derived.Test.YtcchkkdbagpgjaaGreatQ11
import Derived.Test.YtcchkkdbagpgjaaGreatPA
import Derived.Test.YtcchkkdbagpgjaaGreatQ13
import Derived.Test.YtcchkkdbagpgjaaGreatQ17
import Derived.Test.YtcchkkdbagpgjaaGreatVtX
import Derived.Test.YtcchkkdbagpgjaaGreatLgE
import Derived.Test.YtcchkkdbagpgjaaGreatQ09
import Derived.Laws.BytesArg
namespace Go.Proofs.YtcchkkdbagpgjaaGreat
open Go Go.RowKit Go.BigFrame
def badGv (c : Cx) : Bool := decide (200 < c.x.m.key.size) || decide (100 < c.x.vn)
def litGv (l : List Cx) : Bool := decide (l.length ≤ 80) && l.all fun c => !badGv c
def litGvk (l : List Cx) (k : Nat) : Prop := k ≤ 80 ∧ ∀ c ∈ l.take k, badGv c = false
theorem litGv_zero (l : List Cx) : litGvk l 0 := ⟨Nat.zero_le _, fun c h => by simp at h⟩
theorem litGv_next {l : List Cx} {k : Nat} {y : Cx} (h : litGvk l k) (hy : l[k]? = some y) (hk : ¬ 80 ≤ k) (hg : badGv y = false) : litGvk l (k + 1) := by
 refine ⟨by omega, fun c hc => ?_⟩
 have hlt := (List.getElem?_eq_some_iff.1 hy).1
 have he := (List.getElem?_eq_some_iff.1 hy).2
 rw [List.take_succ_eq_append_getElem hlt, he, List.mem_append, List.mem_singleton] at hc
 rcases hc with hc | rfl
 ·exact h.2 c hc
 ·exact hg
theorem litGv_end {l : List Cx} {k : Nat} (h : litGvk l k) (hk : l.length ≤ k) : litGv l = true := by
 have h2 := h.2
 rw [List.take_of_length_le hk] at h2
 unfold litGv
 rw [Bool.and_eq_true]
 exact ⟨decide_eq_true (Nat.le_trans hk h.1), List.all_eq_true.2 fun c hc => by rw [h2 c hc]; rfl⟩
theorem litGv_long {l : List Cx} {k : Nat} (hk : 80 ≤ k) (h1 : k + 1 ≤ l.length) : litGv l = false := by
 unfold litGv
 rw [show decide (l.length ≤ 80) = false from decide_eq_false (by omega)]
 rfl
theorem litGv_bad {l : List Cx} {k : Nat} {y : Cx} (hy : l[k]? = some y) (hg : badGv y = true) : litGv l = false := by
 unfold litGv
 rw [show (l.all fun c => !badGv c) = false from by
  rw [Bool.eq_false_iff]
  intro q
  rw [List.all_eq_true] at q
  have := q y (List.mem_of_getElem? hy)
  rw [hg] at this
  cases this]
 rw [Bool.and_false]
theorem litGv_of {l : List Cx} (h : litGv l = true) : l.length ≤ 80 ∧ ∀ c ∈ l, c.x.m.key.size ≤ 200 ∧ c.x.vn ≤ 100 := by
 unfold litGv at h
 rw [Bool.and_eq_true, List.all_eq_true] at h
 refine ⟨of_decide_eq_true h.1, fun c hc => ?_⟩
 have h2 : badGv c = false := by simpa using h.2 c hc
 unfold badGv at h2
 simp only [Bool.or_eq_false_iff, decide_eq_false_iff_not] at h2
 exact ⟨by omega, by omega⟩
set_option maxHeartbeats 4000000 in
set_option maxRecDepth 100000 in
theorem glight_d (R : At) (v : Value) (l : List Cx) (hR : ∀ W H, R.p W H → RowAt elemCx W v l) : Does Tryz.prog 9 #[v] [R] (.bool (litGv l)) [R] := by
 intro w H hp
 have HM0 := Lib.hid (mem_refl hp)
 clear hp
 obtain ⟨p, cap, rfl, -⟩ := (HM0.out.row 0 rfl hR).form
 go_enter Tryz.func9, Tryz.ntmps9
 refine wp_seq (wQ ?_)
 refine wp_seq (wp_seq (wQ ?_))
 refine wp_block ?_
 refine wp_loop_F [2, 3, 4, 7, 8, 9, 10, 11, 12, 13, 14, 15, 16, 17, 18, 19, 20, 21, 22, 23, 24, 25, 26, 27, 28, 29] (fun n vs W' => ∃ k : Nat, n = l.length - k ∧ vs 7 = .int .i64 (k : Int) ∧ k ≤ l.length ∧ litGvk l k ∧ Mem [R] H w W') (n0 := l.length) ?_ ?_
 ·exact ⟨0, rfl, rfl, Nat.zero_le _, litGv_zero l, (Mem.only (M := [_]) HM0.out [0] rfl)⟩
 rintro n vs W' ⟨k, rfl, e7, hk, hf', hm⟩
 simp only [putAll, List.map_cons, List.map_nil, Act.put, List.setIfInBounds_toArray, List.set_cons_succ, List.set_cons_zero]
 rw [e7]
 clear e7
 have hf := Lib.hid hf'
 clear hf'
 have hk80 := hf.out.1
 have HM1 := Lib.hid hm
 clear hm
 refine wp_seq (wQ ?_)
 refine wp_seq ?_
 refine wp_cond_split rfl (fun h2 => ?_) (fun h2 => ?_)
 ·have hk1 : k + 1 ≤ l.length := by have : (k : Int) < ((l.length : Nat) : Int) := (by simpa using h2); omega
  clear h2
  obtain ⟨y, hy'⟩ : ∃ y, l[k]? = some y := ⟨_, List.getElem?_eq_getElem (hk1)⟩
  have hy := Lib.hid hy'
  clear hy'
  refine wp_skip (then_normal (wp_seq (wp_block (wp_seq (wN [(0, 1), (1, 1), (2, 1), (3, 3), (4, 1), (5, 3)] (wT [0] ?_))))))
  refine wI elemCx 1 (HM1.out.row 0 rfl hR) (hy.out) fun eb3 eo4 hc5 => ?_
  refine wL 2 (cxC y) hc5 Tryz.underlying54 ?_
  refine wpS_alloc (i := 3) (dd := 4) (z := .agg (cxC default).toArray) (cs := (cxC default).toArray) rfl (by rfl) rfl (by kernel_rfl) rfl HM1.out covS_nil rfl ?_
  rintro b8 W7 hm6 -
  have HM9 := Lib.hid hm6
  clear hm6
  simp only [Act.put, List.setIfInBounds_toArray, List.set_cons_succ, List.set_cons_zero]
  refine wT [4] ?_
  refine wXkh (hone := (List.all_eq_true.2 (elemCx.one y))) 5 [_] (cxC y) HM9 0 fun W11 HM12 => ?_
  refine wZ (wp_seq ?_)
  rcases (show 80 ≤ k ∨ (¬ 80 ≤ k ∧ 200 < y.x.m.key.size) ∨ (¬ 80 ≤ k ∧ ¬ 200 < y.x.m.key.size ∧ 100 < y.x.vn) ∨ (¬ 80 ≤ k ∧ ¬ 200 < y.x.m.key.size ∧ ¬ 100 < y.x.vn) from by omega) with h1 | ⟨h1, h2⟩ | ⟨h1, h2, h3⟩ | ⟨h1, h2, h3⟩
  ·have g6 : decide ((80 : Int) ≤ (k : Int)) = true := decide_eq_true (by omega)
   have g6' : decide (80 ≤ k) = true := decide_eq_true h1
   have hc := Lib.hid (litGv_long h1 hk1)
   replace h1 := Lib.hid h1
   refine wN [(0, 1), (1, 1), (2, 1), (3, 1), (4, 1), (5, 1), (6, 1), (7, 1), (8, 1), (9, 1), (10, 1), (11, 1), (12, 1), (13, 1), (14, 1), (15, 1), (16, 1)] (wT [0, 1, 2, 3, 4] ?_)
   refine wK 5 ?_
   refine wT [6, 7, 8, 9, 10, 11, 12] ?_
   refine wK 13 ?_
   refine wT [14, 15, 16] ?_
   refine wZ (wp_cond_true rfl (wp_seq (wQ ?_)))
   refine wp_ret ?_
   refine block_ret (then_ret (then_ret (block_ret (then_ret ?_))))
   refine bodyPost_ret (results_tmp rfl _ _ _) rfl ?_
   rw [hc.out]
   exact does_ret (Mem.only (M := [_]) HM12.out [1] rfl) rfl rfl
  ·have g6 : decide ((80 : Int) ≤ (k : Int)) = false := decide_eq_false (by omega)
   have g6' : decide (80 ≤ k) = false := decide_eq_false h1
   have g7 : decide ((200 : Int) < (y.x.m.key.size : Int)) = true := decide_eq_true (by omega)
   have g7' : decide (200 < y.x.m.key.size) = true := decide_eq_true h2
   have hc : Hid (litGv l = false) := Lib.hid (litGv_bad hy.out (by unfold badGv; rw [decide_eq_true h2]; rfl))
   replace h1 := Lib.hid h1
   replace h2 := Lib.hid h2
   refine wN [(0, 1), (1, 1), (2, 1), (3, 1), (4, 1), (5, 1), (6, 1), (7, 1), (8, 1), (9, 1), (10, 1), (11, 1), (12, 1), (13, 1), (14, 1), (15, 1), (16, 1)] (wT [0, 1, 2, 3, 4] ?_)
   refine wM 5 (.string y.x.m.key) (HM12.out.part1 0 rfl cxC_name) Tryz.underlying9 ?_
   refine wT [6, 7, 8, 9, 10, 11, 12] ?_
   refine wK 13 ?_
   refine wT [14, 15, 16] ?_
   refine wZ (wp_cond_true rfl (wp_seq (wQ ?_)))
   refine wp_ret ?_
   refine block_ret (then_ret (then_ret (block_ret (then_ret ?_))))
   refine bodyPost_ret (results_tmp rfl _ _ _) rfl ?_
   rw [hc.out]
   exact does_ret (Mem.only (M := [_]) HM12.out [1] rfl) rfl rfl
  ·have g6 : decide ((80 : Int) ≤ (k : Int)) = false := decide_eq_false (by omega)
   have g6' : decide (80 ≤ k) = false := decide_eq_false h1
   have g7 : decide ((200 : Int) < (y.x.m.key.size : Int)) = false := decide_eq_false (by omega)
   have g7' : decide (200 < y.x.m.key.size) = false := decide_eq_false h2
   have g8 : decide ((100 : Int) < (y.x.vn : Int)) = true := decide_eq_true (by omega)
   have g8' : decide (100 < y.x.vn) = true := decide_eq_true h3
   have hc : Hid (litGv l = false) := Lib.hid (litGv_bad hy.out (by unfold badGv; rw [decide_eq_true h3, Bool.or_true]))
   replace h1 := Lib.hid h1
   replace h2 := Lib.hid h2
   replace h3 := Lib.hid h3
   refine wN [(0, 1), (1, 1), (2, 1), (3, 1), (4, 1), (5, 1), (6, 1), (7, 1), (8, 1), (9, 1), (10, 1), (11, 1), (12, 1), (13, 1), (14, 1), (15, 1), (16, 1)] (wT [0, 1, 2, 3, 4] ?_)
   refine wM 5 (.string y.x.m.key) (HM12.out.part1 0 rfl cxC_name) Tryz.underlying9 ?_
   refine wT [6, 7, 8, 9, 10, 11, 12] ?_
   refine wM 13 (.slice y.x.vp y.x.vn y.x.vc) (HM12.out.part1 0 rfl cxC_vals) Tryz.underlying39 ?_
   refine wT [14, 15, 16] ?_
   refine wZ (wp_cond_true rfl (wp_seq (wQ ?_)))
   refine wp_ret ?_
   refine block_ret (then_ret (then_ret (block_ret (then_ret ?_))))
   refine bodyPost_ret (results_tmp rfl _ _ _) rfl ?_
   rw [hc.out]
   exact does_ret (Mem.only (M := [_]) HM12.out [1] rfl) rfl rfl
  ·have g6 : decide ((80 : Int) ≤ (k : Int)) = false := decide_eq_false (by omega)
   have g6' : decide (80 ≤ k) = false := decide_eq_false h1
   have g7 : decide ((200 : Int) < (y.x.m.key.size : Int)) = false := decide_eq_false (by omega)
   have g7' : decide (200 < y.x.m.key.size) = false := decide_eq_false h2
   have g8 : decide ((100 : Int) < (y.x.vn : Int)) = false := decide_eq_false (by omega)
   have g8' : decide (100 < y.x.vn) = false := decide_eq_false h3
   have hgd : Hid (badGv y = false) := Lib.hid (by unfold badGv; rw [decide_eq_false h2, decide_eq_false h3]; rfl)
   replace h1 := Lib.hid h1
   replace h2 := Lib.hid h2
   replace h3 := Lib.hid h3
   refine wN [(0, 1), (1, 1), (2, 1), (3, 1), (4, 1), (5, 1), (6, 1), (7, 1), (8, 1), (9, 1), (10, 1), (11, 1), (12, 1), (13, 1), (14, 1), (15, 1), (16, 1)] (wT [0, 1, 2, 3, 4] ?_)
   refine wM 5 (.string y.x.m.key) (HM12.out.part1 0 rfl cxC_name) Tryz.underlying9 ?_
   refine wT [6, 7, 8, 9, 10, 11, 12] ?_
   refine wM 13 (.slice y.x.vp y.x.vn y.x.vc) (HM12.out.part1 0 rfl cxC_vals) Tryz.underlying39 ?_
   refine wT [14, 15, 16] ?_
   refine wZ (wp_cond_false rfl (wp_skip (block_normal (then_normal (wQ ?_)))))
   refine ⟨by kernel_rfl, ?_⟩
   exact ⟨l.length - (k + 1), by omega, k + 1, rfl, rfl, hk1, litGv_next hf.out hy.out h1.out hgd.out, (Mem.only (M := [_]) HM12.out [1] rfl)⟩
 ·have hge : Hid (l.length ≤ k) := Lib.hid (by have : ¬ (k : Int) < (l.length : Int) := (by simpa using h2); omega)
  clear h2
  refine wp_exit ?_
  refine then_exit (then_exit (block_exit ?_))
  refine then_normal (wp_seq (wQ ?_))
  refine wp_ret (bodyPost_ret (results_tmp rfl _ _ _) rfl ?_)
  rw [litGv_end hf.out hge.out]
  exact does_ret (Mem.only (M := [_]) HM1.out [0] rfl) rfl rfl
end Go.Proofs.YtcchkkdbagpgjaaGreat
namespace Go.Proofs.YtcchkkdbagpgjaaGreat
open Go
theorem zV_may : mayV (fun _ => 0) = true := mayV_iff.2 fun _ _ => ⟨Int.le_refl _, by decide⟩
theorem put_empty {n : Int} {t : ByteArray} (hn : 1 ≤ n ∧ n ≤ 1000000) (ht : t.size ≤ 64) : putBR noB (fun _ => 0) (0, n) t = (putB noB (fun _ => 0) (0, n) t, 0) := by
 have hno : hasV noB.k ((0 : Int), n) = false := by
  cases h : hasV noB.k ((0 : Int), n) with
  | false => rfl
  | true =>
   have h0 : n ≤ 0 := (hasV_iff.1 h).2.2
   omega
 have hl : (putB noB (fun _ => 0) (0, n) t).v.length ≤ 32 := by
  rw [put_len]
  show 0 + 1 ≤ 32
  decide
 unfold putBR
 rw [if_pos ⟨mayB_iff.2 may_noB, zV_may, dotB_iff.2 ⟨by show (0 : Int) ≤ 0 ∧ (0 : Int) < 8; decide, hn⟩, hno, ht⟩, if_pos hl]
theorem bag_none {S : Vt} {k : ByteArray} (h : hasK S k = false) : bagV S k = noB := by
 unfold hasK at h
 unfold bagV
 cases hg : getK S.b k with
 | none => rfl
 | some x =>
  rw [hg] at h
  cases h
def xB (n : Int) (t : ByteArray) : Bg := putB noB (fun _ => 0) (0, n) t
theorem xB_may {n : Int} {t : ByteArray} (hn : 1 ≤ n ∧ n ≤ 1000000) (ht : t.size ≤ 64) : MayB (xB n t) := by
 rcases put_of may_noB zV_may (dotB_iff.2 ⟨by show (0 : Int) ≤ 0 ∧ (0 : Int) < 8; decide, hn⟩ : dotB ((0 : Int), n) = true) (by
  cases h : hasV noB.k ((0 : Int), n) with
  | false => rfl
  | true =>
   have h0 : n ≤ 0 := (hasV_iff.1 h).2.2
   omega) ht (put_empty hn ht) with ⟨_, _, h⟩ | ⟨h, _⟩
 ·exact h
 ·cases h
theorem put_new {X : Vl2} (hK : Kept X) {k t : ByteArray} (hk : keyB k = true) (ht : t.size ≤ 64) (hr : X.2.l.length < X.2.room) (hd : X.1.dots < 1000000) (hh : hasK X.1 k = false) (hl : X.1.b.length < 200) : putV X 0 k (fun _ => 0) t = ((countD X.1 (kbD (X.1.dots + 1) k (xB (X.1.dots + 1) t)), ⟨X.2.room, X.2.sure, X.2.l ++ [kbD (X.1.dots + 1) k (xB (X.1.dots + 1) t)]⟩), (0, X.1.dots + 1), 0) := by
 have h0 := hK.ok.dots
 have hn : 1 ≤ X.1.dots + 1 ∧ X.1.dots + 1 ≤ 1000000 := by omega
 have hp := put_empty (t := t) hn ht
 have hw := writeV_ok (X := X) (d := kbD (X.1.dots + 1) k (xB (X.1.dots + 1) t)) (bag_mayD hk (xB_may hn ht) (by omega)) hr
 unfold putV
 rw [if_pos ⟨by decide, hk⟩, if_pos hd, if_neg (by unfold fullV; rw [decide_eq_false (by omega), Bool.and_false]; exact Bool.false_ne_true), bag_none hh, hp]
 show (if (0 : Int) = 0 then (if (writeV X (kbD (X.1.dots + 1) k (xB (X.1.dots + 1) t))).2 = 0 then ((writeV X (kbD (X.1.dots + 1) k (xB (X.1.dots + 1) t))).1, ((0 : Int), X.1.dots + 1), (0 : Int)) else (X, (0, 0), (writeV X (kbD (X.1.dots + 1) k (xB (X.1.dots + 1) t))).2)) else (X, (0, 0), (0 : Int))) = _
 rw [if_pos rfl, hw, if_pos rfl]
end Go.Proofs.YtcchkkdbagpgjaaGreat
namespace Go.Proofs.YtcchkkdbagpgjaaGreat
open Go
end Go.Proofs.YtcchkkdbagpgjaaGreat
namespace Go.Proofs.YtcchkkdbagpgjaaGreat
open Go Go.RowKit Go.BigFrame
section
variable {dv dl : Nat} {X Y : Vl2} {e : Int}
theorem vput_e {node : Int} {k : ByteArray} {known : Nat → Int} {t : ByteArray} {d : En} (hX : Kept X) (h : putV X node k known t = (Y, d, e)) : Does Tryz.prog 27 #[.pointer (some ⟨dv, 0, none⟩), .int .i64 node, .string k, vV known, .string t] [vtT dv dl X.1, lgT dl X.2] (.tuple #[dV d, .int .i64 e]) [vtT dv dl Y.1, lgT dl Y.2] := by
 have h1 := vput_d dv dl X hX node k known t
 rw [h] at h1
 exact h1
theorem vmerge_e {R : At} {k : ByteArray} {sb : Value} {b : Bg} (hX : Kept X) (hb : Reads elemV R sb b.v) (lb : b.v.length ≤ 4398046510976) (h : mergeV X k b = (Y, e)) : Does Tryz.prog 32 #[.pointer (some ⟨dv, 0, none⟩), .string k, bgV b.k sb] [vtT dv dl X.1, lgT dl X.2, R] (.int .i64 e) [vtT dv dl Y.1, lgT dl Y.2, R] := by
 have h1 := vmerge_d R dv dl X hX k sb b hb lb
 rw [h] at h1
 exact h1
theorem vbag_e {S : Vt} {k : ByteArray} {b : Bg} (hS : VtOk S) (h : bagV S k = b) : DoesU Tryz.prog 35 #[.pointer (some ⟨dv, 0, none⟩), .string k] [vtT dv dl S] (fun u => [bagT u b, vtT dv dl S]) := by
 have h1 := vbag_d dv dl S hS k
 rw [h] at h1
 exact h1
theorem vkeys_e {S : Vt} {n : Int} {l : List ByteArray} (hS : VtOk S) (hl : S.b.length ≤ 3000) (h : keysV S n = l) : DoesU Tryz.prog 33 #[.pointer (some ⟨dv, 0, none⟩), .int .i64 n] [vtT dv dl S] (fun u => [textsT u l, vtT dv dl S]) := by
 have h1 := vkeys_d dv dl S hS hl n
 rw [h] at h1
 exact h1
end
end Go.Proofs.YtcchkkdbagpgjaaGreat
