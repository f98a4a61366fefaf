/- PQ: FdQ, FdR, FdS, FrA. -/
import Derived.Test.YtcbnhakfijiioaaGreatVtM
import Derived.Test.YtcbnhakfijiioaaGreatFdV
import Derived.Test.YtcbnhakfijiioaaGreatVtA
import Derived.Test.YtcbnhakfijiioaaGreatLgE
import Derived.Test.YtcbnhakfijiioaaGreatPD
import Derived.Test.YtcbnhakfijiioaaGreatPA
import Derived.Test.YtcbnhakfijiioaaGreatVtY
namespace Go.Proofs.YtcbnhakfijiioaaGreat
open Go
def atK : List Kb → ByteArray → Nat
 | [], _ => 0
 | p :: l, k => if ltK p.1 k then atK l k + 1 else 0
theorem atK_le : ∀ (l : List Kb) (k : ByteArray), atK l k ≤ l.length
 | [], _ => Nat.le_refl _
 | p :: l, k => by
  unfold atK
  split
  ·exact Nat.succ_le_succ (atK_le l k)
  ·exact Nat.zero_le _
theorem atK_of : ∀ {l : List Kb} {k : ByteArray} {i : Nat}, (∀ j p, j < i → l[j]? = some p → ltK p.1 k) → (∀ p, l[i]? = some p → ¬ ltK p.1 k) → i ≤ l.length → atK l k = i
 | [], _, i, _, _, h => by
  have h0 : i = 0 := Nat.le_zero.1 h
  subst h0
  rfl
 | q :: l, k, i, h1, h2, h3 => by
  unfold atK
  cases i with
  | zero => rw [if_neg (h2 q rfl)]
  | succ i =>
   rw [if_pos (h1 0 q (Nat.succ_pos _) rfl), atK_of (i := i) (fun j p hj hp => h1 (j + 1) p (Nat.succ_lt_succ hj) (by rw [List.getElem?_cons_succ]; exact hp)) (fun p hp => h2 p (by rw [List.getElem?_cons_succ]; exact hp)) (Nat.le_of_succ_le_succ h3)]
theorem at_is : ∀ {l : List Kb} {k : ByteArray}, SrtK l → ((∃ p, l[atK l k]? = some p ∧ p.1 = k ∧ getK l k = some p.2) ∨ ((∀ p, l[atK l k]? = some p → p.1 ≠ k) ∧ getK l k = none))
 | [], _, _ => .inr ⟨(fun _ h => by cases h), rfl⟩
 | q :: l, k, hs => by
  obtain ⟨h1, h2⟩ := List.pairwise_cons.1 hs
  unfold atK getK
  by_cases hq : ltK q.1 k
  ·rw [if_pos hq, if_neg (ltK_ne hq), List.getElem?_cons_succ]
   exact at_is h2
  ·rw [if_neg hq]
   by_cases he : q.1 = k
   ·rw [if_pos he]
    exact .inl ⟨q, rfl, he, rfl⟩
   ·rw [if_neg he]
    refine .inr ⟨fun p hp => ?_, ?_⟩
    ·obtain rfl := Option.some.inj hp
     exact he
    ·cases hg : getK l k with
     | none => rfl
     | some x =>
      exfalso
      have h3 := h1 _ (getK_mem hg)
      exact hq h3
theorem at_put : ∀ {l : List Kb} {k : ByteArray} {x : Bg}, SrtK l → putK k x l = l.take (atK l k) ++ (k, x) :: (if (getK l k).isSome = true then l.drop (atK l k + 1) else l.drop (atK l k))
 | [], _, _, _ => rfl
 | q :: l, k, x, hs => by
  obtain ⟨h1, h2⟩ := List.pairwise_cons.1 hs
  unfold putK atK getK
  by_cases he : k = q.1
  ·subst he
   rw [if_pos rfl, if_neg (ltK_irrefl _), if_pos rfl]
   rfl
  ·rw [if_neg he, if_neg (fun h : q.1 = k => he h.symm)]
   by_cases hq : ltK k q.1
   ·have hn : ¬ ltK q.1 k := fun h => ltK_irrefl _ (ltK_trans hq h)
    rw [if_pos hq, if_neg hn]
    have hg : getK l k = none := by
     cases hg : getK l k with
     | none => rfl
     | some y => exact absurd (ltK_trans hq (h1 _ (getK_mem hg))) (ltK_irrefl _)
    rw [hg]
    rfl
   ·have hlt : ltK q.1 k := by
     rcases ltK_tri q.1 k with h | h | h
     ·exact h
     ·exact absurd h.symm he
     ·exact absurd h hq
    rw [if_neg hq, if_pos hlt, at_put h2]
    rfl
end Go.Proofs.YtcbnhakfijiioaaGreat
namespace Go.Proofs.YtcbnhakfijiioaaGreat
open Go Go.RowKit Go.BigFrame
structure Px where
 k : ByteArray
 b : Bg
 p : Option Addr
 n : Nat
 c : Nat
instance : Inhabited Px := ⟨⟨⟨#[]⟩, noB, none, 0, 0⟩⟩
def Px.enc (x : Px) : List Value := prC x.k x.b.k (.slice x.p x.n x.c)
def Px.kb (x : Px) : Kb := (x.k, x.b)
def elemPx : Elem Tryz.prog Px where
 enc := Px.enc
 k := 10
 pos := by decide
 len _ := rfl
 one x u hu := List.all_eq_true.1 (show x.enc.all Value.oneCell' = true by kernel_rfl) u hu
 t := 45
 sl := 89
 under := Tryz.underlying89
 z := .agg (default : Px).enc.toArray
 bytes := 104
 bpos := by decide
 info := by kernel_rfl
 zs := by kernel_rfl
def rvC (dl : Nat) (inc dots : Int) (has : Bool) (r : Rg) (rs bs : Value) : List Value := [.pointer (some ⟨dl, 0, none⟩), .int .i64 inc, .int .i64 dots, .bool has] ++ (rgC r rs ++ [bs])
section
variable {dl : Nat} {inc dots : Int} {has : Bool} {r : Rg} {rs bs : Value}
theorem rvC_ledger : (rvC dl inc dots has r rs bs)[0]? = some (.pointer (some ⟨dl, 0, none⟩)) := rfl
theorem rvC_dots : (rvC dl inc dots has r rs bs)[2]? = some (.int .i64 dots) := rfl
theorem rvC_bags : (rvC dl inc dots has r rs bs)[47]? = some bs := by kernel_rfl
theorem rvC_setDots (z : Int) : putL (rvC dl inc dots has r rs bs) 2 [.int .i64 z] = rvC dl inc z has r rs bs := by kernel_rfl
theorem rvC_setBags (z : Value) : putL (rvC dl inc dots has r rs bs) 47 [z] = rvC dl inc dots has r rs z := by kernel_rfl
end
structure Rs where
 ys : List Px
 p : Option Addr
 c : Nat
 rp : Option Addr
 rc : Nat
 G : At
structure RsOk (s : Rs) (S : Vt) : Prop where
 row : s.ys.map Px.kb = S.b
 ring : Reads elemI s.G (.slice s.rp S.ring.p.2.2.length s.rc) S.ring.p.2.2
 rd : ∀ y ∈ s.ys, y.n = y.b.v.length ∧ Reads elemV s.G (.slice y.p y.n y.c) y.b.v
theorem RsOk.start : RsOk ⟨[], none, 0, none, 0, listT []⟩ noVt := ⟨rfl, srcNil _, fun y hy => by cases hy⟩
theorem RsOk.at_ {s : Rs} {S : Vt} (h : RsOk s S) (i : Nat) : (s.ys[i]?).map Px.kb = S.b[i]? := by rw [← h.row, List.getElem?_map]
theorem RsOk.len {s : Rs} {S : Vt} (h : RsOk s S) : s.ys.length = S.b.length := by rw [← h.row, List.length_map]
def rvT (d dl : Nat) (S : Vt) : At := exT fun s : Rs => [prT (RsOk s S), boxT d (.cells (rvC dl S.inc S.dots S.has S.ring (.slice s.rp S.ring.p.2.2.length s.rc) (.slice s.p s.ys.length s.c)).toArray 91 (0, 0)), rowT elemPx (.slice s.p s.ys.length s.c) s.ys, s.G]
section
variable {L : List At} {H0 : Nat → Prop} {w W : World} {d dl : Nat} {S : Vt}
theorem Mem.rv (h : Mem (rvT d dl S :: L) H0 w W) : ∃ s : Rs, RsOk s S ∧ Mem (boxT d (.cells (rvC dl S.inc S.dots S.has S.ring (.slice s.rp S.ring.p.2.2.length s.rc) (.slice s.p s.ys.length s.c)).toArray 91 (0, 0)) :: rowT elemPx (.slice s.p s.ys.length s.c) s.ys :: s.G :: L) H0 w W := by
 obtain ⟨s, h⟩ := Mem.ex h
 obtain ⟨hu, h⟩ := Mem.pr h
 exact ⟨s, hu, h⟩
theorem Mem.toRv (s : Rs) (hs : RsOk s S) (h : Mem (boxT d (.cells (rvC dl S.inc S.dots S.has S.ring (.slice s.rp S.ring.p.2.2.length s.rc) (.slice s.p s.ys.length s.c)).toArray 91 (0, 0)) :: rowT elemPx (.slice s.p s.ys.length s.c) s.ys :: s.G :: L) H0 w W) : Mem (rvT d dl S :: L) H0 w W := Mem.addEx s (Mem.addPr hs h)
end
end Go.Proofs.YtcbnhakfijiioaaGreat
namespace Go.Proofs.YtcbnhakfijiioaaGreat
open Go Go.RowKit Go.BigFrame
def LowK (l : List Px) (k : ByteArray) (i : Nat) : Prop := ∀ (j : Nat) (y : Px), j < i → l[j]? = some y → ltK y.k k
theorem LowK.zero (l : List Px) (k : ByteArray) : LowK l k 0 := fun _ _ h _ => absurd h (Nat.not_lt_zero _)
theorem LowK.next {l : List Px} {k : ByteArray} {i : Nat} {y : Px} (h : LowK l k i) (hy : l[i]? = some y) (hl : ltK y.k k) : LowK l k (i + 1) := fun j z hj hz => by
 rcases Nat.lt_or_eq_of_le (Nat.le_of_lt_succ hj) with h1 | rfl
 ·exact h j z h1 hz
 ·rw [hy] at hz
  obtain rfl := Option.some.inj hz
  exact hl
theorem LowK.at_ {s : Rs} {S : Vt} (hs : RsOk s S) {k : ByteArray} {i : Nat} (h : LowK s.ys k i) (hi : i ≤ s.ys.length) (hn : ∀ y, s.ys[i]? = some y → ¬ ltK y.k k) : atK S.b k = i := by
 refine atK_of (fun j p hj hp => ?_) (fun p hp => ?_) (by rw [← hs.len]; exact hi)
 ·rw [← hs.at_] at hp
  obtain ⟨y, hy, rfl⟩ := Option.map_eq_some_iff.1 hp
  exact h j y hj hy
 ·rw [← hs.at_] at hp
  obtain ⟨y, hy, rfl⟩ := Option.map_eq_some_iff.1 hp
  exact hn y hy
theorem at_found {s : Rs} {S : Vt} (hs : RsOk s S) (hV : VtOk S) {k : ByteArray} {i : Nat} (hi : atK S.b k = i) {y : Px} (hy : s.ys[i]? = some y) : hasK S k = decide (y.k = k) := by
 have h1 := hs.at_ i
 rw [hy] at h1
 unfold hasK
 rcases at_is (k := k) hV.srt with ⟨p, h2, h3, h4⟩ | ⟨h2, h3⟩
 ·rw [hi, ← h1] at h2
  obtain rfl := Option.some.inj h2
  rw [h4, decide_eq_true (show y.k = k from h3)]
  rfl
 ·rw [hi, ← h1] at h2
  rw [h3]
  exact (decide_eq_false (show ¬ y.k = k from h2 _ rfl)).symm
theorem at_none {s : Rs} {S : Vt} (hs : RsOk s S) (hV : VtOk S) {k : ByteArray} (hi : atK S.b k = s.ys.length) : hasK S k = false := by
 unfold hasK
 rcases at_is (k := k) hV.srt with ⟨p, h2, _, _⟩ | ⟨_, h3⟩
 ·rw [hi, hs.len, List.getElem?_eq_none (Nat.le_refl _)] at h2
  cases h2
 ·rw [h3]
  rfl
set_option maxHeartbeats 4000000 in
set_option maxRecDepth 100000 in
theorem rat_d (d dl : Nat) (S : Vt) (hV : VtOk S) (hl : S.b.length ≤ 3000) (s : Rs) (hs' : RsOk s S) (k : ByteArray) : Does Tryz.prog 71 #[.pointer (some ⟨d, 0, none⟩), .string k] [boxT d (.cells (rvC dl S.inc S.dots S.has S.ring (.slice s.rp S.ring.p.2.2.length s.rc) (.slice s.p s.ys.length s.c)).toArray 91 (0, 0)), rowT elemPx (.slice s.p s.ys.length s.c) s.ys] (.tuple #[.int .i64 (atK S.b k : Int), .bool (hasK S k)]) [boxT d (.cells (rvC dl S.inc S.dots S.has S.ring (.slice s.rp S.ring.p.2.2.length s.rc) (.slice s.p s.ys.length s.c)).toArray 91 (0, 0)), rowT elemPx (.slice s.p s.ys.length s.c) s.ys] := by
 intro w H hp
 have HM0 := Lib.hid (mem_refl hp)
 clear hp
 have hs := Lib.hid hs'
 clear hs'
 have hyl : s.ys.length ≤ 3000 := by rw [hs.out.len]; exact hl
 go_enter Tryz.func71, Tryz.ntmps71
 refine wp_seq (wQ ?_)
 refine wp_seq (wQ ?_)
 refine wp_seq (wp_block ?_)
 refine wp_loop_F [6, 7, 8, 9, 10, 11, 12, 13, 14, 15, 16, 17, 18, 19, 20, 21, 22, 23, 24, 25, 26, 27] (fun n vs W' => ∃ i : Nat, n = s.ys.length - i ∧ vs 6 = .int .i64 (i : Int) ∧ i ≤ s.ys.length ∧ LowK s.ys k i ∧ Mem [boxT d (.cells (rvC dl S.inc S.dots S.has S.ring (.slice s.rp S.ring.p.2.2.length s.rc) (.slice s.p s.ys.length s.c)).toArray 91 (0, 0)), rowT elemPx (.slice s.p s.ys.length s.c) s.ys] H w W') (n0 := s.ys.length) ?_ ?_
 ·exact ⟨0, rfl, rfl, Nat.zero_le _, LowK.zero _ _, (Mem.only (M := [_, _]) HM0.out [0, 0] rfl)⟩
 rintro n vs W' ⟨i, rfl, e6, hi, hlo', hm⟩
 simp only [putAll, List.map_cons, List.map_nil, Act.put, List.setIfInBounds_toArray, List.set_cons_succ, List.set_cons_zero]
 rw [e6]
 clear e6
 have hlo := Lib.hid hlo'
 clear hlo'
 have HM1 := Lib.hid hm
 clear hm
 refine wp_seq (wp_seq ?_)
 by_cases hil : i < s.ys.length
 ·obtain ⟨y, hy'⟩ : ∃ y, s.ys[i]? = some y := ⟨_, List.getElem?_eq_getElem hil⟩
  have hy := Lib.hid hy'
  clear hy'
  have g1 : decide ((i : Int) < (s.ys.length : Int)) = true := decide_eq_true (by omega)
  have g1' : decide (i < s.ys.length) = true := decide_eq_true hil
  refine wN [(0, 1), (1, 1), (2, 1), (3, 1), (4, 1), (5, 1), (6, 1), (7, 1), (8, 1), (9, 1), (10, 1), (11, 1), (12, 1), (13, 1), (14, 1), (15, 1), (16, 1), (17, 1), (18, 1)] (wT [0, 1, 2, 3] ?_)
  refine wM 4 (.slice s.p s.ys.length s.c) (HM1.out.part1 0 rfl rvC_bags) Tryz.underlying89 ?_
  refine wT [5, 6, 7, 8, 9, 10] ?_
  refine wM 11 (.slice s.p s.ys.length s.c) (HM1.out.part1 0 rfl rvC_bags) Tryz.underlying89 ?_
  refine wT [12] ?_
  refine wI elemPx 13 (rowAt_src (Mem.src HM1.out 1 rfl rowT_reads)) (hy.out) fun eb2 eo3 hc4 => ?_
  refine wT [14] ?_
  refine wM 15 (.string y.k) (hc4 0 _ rfl) Tryz.underlying9 ?_
  refine wT [16] ?_
  refine wR 17 (run_lssS (b := decide (ltK y.k k)) rfl rfl rfl rfl) ?_
  refine wT [18] ?_
  refine wZ ?_
  refine wp_cond_split rfl (fun h5 => ?_) (fun h5 => ?_)
  ·have hlt : Hid (ltK y.k k) := Lib.hid (by simpa using h5)
   clear h5
   refine wp_skip (then_normal (wp_block (wN [(0, 1), (1, 1), (2, 1)] (wT [0, 1, 2] ?_))))
   refine wpS_nil (block_normal (then_normal ?_))
   refine ⟨by kernel_rfl, ?_⟩
   exact ⟨s.ys.length - (i + 1), by omega, i + 1, rfl, rfl, (by omega), hlo.out.next hy.out hlt.out, (Mem.only (M := [_, _]) HM1.out [0, 0] rfl)⟩
  ·have hnl : ¬ ltK y.k k := by simpa using h5
   clear h5
   have hat : Hid (atK S.b k = i) := Lib.hid (hlo.out.at_ hs.out (by omega) (fun z hz => by rw [hy.out] at hz; obtain rfl := Option.some.inj hz; exact hnl))
   have hfo := Lib.hid (at_found hs.out hV hat.out hy.out)
   clear hnl
   refine wp_exit ?_
   refine then_exit (then_exit (block_exit ?_))
   refine then_normal (wp_seq ?_)
   refine wp_region_M (fun k => k ∈ ([] : List Nat)) [(0, 1), (1, 1), (2, 1), (3, 1), (4, 1), (5, 1), (6, 1), (7, 1), (8, 1), (9, 1), (10, 1), (11, 1), (12, 1), (13, 1), (14, 1), (15, 1), (16, 1), (17, 1), (18, 1), (19, 1), (20, 1), (21, 1)] (by kernel_rfl) (by kernel_rfl) HM1.out ?_
   intro W6 hm7
   have HM8 := Lib.hid hm7
   clear hm7
   refine wT [0, 1, 2, 3, 4] ?_
   refine wM 5 (.slice s.p s.ys.length s.c) (HM8.out.part1 0 rfl rvC_bags) Tryz.underlying89 ?_
   refine wT [6, 7, 8, 9, 10, 11] ?_
   refine wM 12 (.slice s.p s.ys.length s.c) (HM8.out.part1 0 rfl rvC_bags) Tryz.underlying89 ?_
   refine wT [13] ?_
   refine wI elemPx 14 (rowAt_src (Mem.src HM8.out 1 rfl rowT_reads)) (hy.out) fun eb9 eo10 hc11 => ?_
   refine wT [15] ?_
   refine wM 16 (.string y.k) (hc11 0 _ rfl) Tryz.underlying9 ?_
   refine wT [17] ?_
   refine wR 18 (run_eqS (b := decide (y.k = k)) rfl rfl rfl rfl) ?_
   refine wT [19, 20, 21] ?_
   refine wZ (wp_ret ?_)
   refine bodyPost_ret (results_tmp2 rfl _ _ _) rfl ?_
   rw [hat.out, hfo.out]
   exact does_ret (Mem.only (M := [_, _]) HM8.out [0, 0] rfl) rfl rfl
 ·have hat : Hid (atK S.b k = s.ys.length) := Lib.hid (hlo.out.at_ hs.out (by omega) (fun y hy => by rw [List.getElem?_eq_none (by omega)] at hy; cases hy) |>.trans (by omega))
  have hfo : Hid (hasK S k = false) := Lib.hid (at_none hs.out hV hat.out)
  have hie : i = s.ys.length := by omega
  have g1 : decide ((i : Int) < (s.ys.length : Int)) = false := decide_eq_false (by omega)
  have g1' : decide (i < s.ys.length) = false := decide_eq_false hil
  subst hie
  refine wN [(0, 1), (1, 1), (2, 1), (3, 1), (4, 1), (5, 1), (6, 1), (7, 1), (8, 1), (9, 1), (10, 1), (11, 1), (12, 1), (13, 1), (14, 1), (15, 1), (16, 1), (17, 1), (18, 1)] (wT [0, 1, 2, 3] ?_)
  refine wM 4 (.slice s.p s.ys.length s.c) (HM1.out.part1 0 rfl rvC_bags) Tryz.underlying89 ?_
  refine wT [5, 6, 7, 8, 9, 10] ?_
  refine wK 11 ?_
  refine wT [12] ?_
  refine wK 13 ?_
  refine wT [14] ?_
  refine wK 15 ?_
  refine wT [16] ?_
  refine wK 17 ?_
  refine wT [18] ?_
  refine wZ (wp_cond_false rfl (wp_exit ?_))
  refine then_exit (then_exit (block_exit ?_))
  refine then_normal (wp_seq ?_)
  refine wp_region_M (fun k => k ∈ ([] : List Nat)) [(0, 1), (1, 1), (2, 1), (3, 1), (4, 1), (5, 1), (6, 1), (7, 1), (8, 1), (9, 1), (10, 1), (11, 1), (12, 1), (13, 1), (14, 1), (15, 1), (16, 1), (17, 1), (18, 1), (19, 1), (20, 1), (21, 1)] (by kernel_rfl) (by kernel_rfl) HM1.out ?_
  intro W12 hm13
  have HM14 := Lib.hid hm13
  clear hm13
  refine wT [0, 1, 2, 3, 4] ?_
  refine wM 5 (.slice s.p s.ys.length s.c) (HM14.out.part1 0 rfl rvC_bags) Tryz.underlying89 ?_
  refine wT [6, 7, 8, 9, 10, 11] ?_
  refine wK 12 ?_
  refine wT [13] ?_
  refine wK 14 ?_
  refine wT [15] ?_
  refine wK 16 ?_
  refine wT [17] ?_
  refine wK 18 ?_
  refine wT [19, 20, 21] ?_
  refine wZ (wp_ret ?_)
  refine bodyPost_ret (results_tmp2 rfl _ _ _) rfl ?_
  rw [hat.out, hfo.out]
  exact does_ret (Mem.only (M := [_, _]) HM14.out [0, 0] rfl) rfl rfl
end Go.Proofs.YtcbnhakfijiioaaGreat
namespace Go.Proofs.YtcbnhakfijiioaaGreat
open Go Go.RowKit Go.BigFrame
def slR (s : Rs) (S : Vt) (k : ByteArray) : Value := if hasK S k = true then (match s.ys[atK S.b k]? with | some y => .slice y.p y.n y.c | none => .slice none 0 0) else .slice none 0 0
theorem bag_ways {s : Rs} {S : Vt} (hs : RsOk s S) (hV : VtOk S) (k : ByteArray) : (hasK S k = true ∧ ∃ y, s.ys[atK S.b k]? = some y ∧ bagV S k = y.b ∧ slR s S k = .slice y.p y.n y.c) ∨ (hasK S k = false ∧ bagV S k = noB ∧ slR s S k = .slice none 0 0) := by
 unfold hasK bagV slR
 rcases at_is (k := k) hV.srt with ⟨p, h2, h3, h4⟩ | ⟨_, h3⟩
 ·left
  rw [← hs.at_] at h2
  obtain ⟨y, hy, rfl⟩ := Option.map_eq_some_iff.1 h2
  unfold hasK
  rw [h4, hy]
  exact ⟨rfl, y, rfl, rfl, rfl⟩
 ·right
  unfold hasK
  rw [h3]
  exact ⟨rfl, rfl, rfl⟩
theorem rd_bag {s : Rs} {S : Vt} (hs : RsOk s S) (hV : VtOk S) (k : ByteArray) : Reads elemV s.G (slR s S k) (bagV S k).v := by
 rcases bag_ways hs hV k with ⟨_, y, hy, h1, h2⟩ | ⟨_, h1, h2⟩ <;> rw [h1, h2]
 ·exact (hs.rd y (List.mem_of_getElem? hy)).2
 ·exact vNil _
theorem px_bag {y : Px} {W : World} {b o : Nat} (h : ∀ k u, (elemPx.enc y)[k]? = some u → W.cell? ⟨b, o + k, none⟩ = some u) : ∀ k u, (bgC y.b.k (.slice y.p y.n y.c))[k]? = some u → W.cell? ⟨b, o + 1 + k, none⟩ = some u := fun k u hu => by
 rw [Nat.add_assoc]
 exact h _ _ (prC_bag k u hu)
def ksR (l : List Px) (q : Int) : List ByteArray := (l.filter fun y => decide (ofK y.k = q)).map Px.k
theorem ksR_all {s : Rs} {S : Vt} (hs : RsOk s S) (q : Int) : ksR s.ys q = keysV S q := by
 unfold ksR keysV
 rw [← hs.row, List.filter_map, List.map_map]
 rfl
theorem ksR_step {l : List Px} {i : Nat} {y : Px} (q : Int) (h : l[i]? = some y) : ksR (l.take (i + 1)) q = if ofK y.k = q then ksR (l.take i) q ++ [y.k] else ksR (l.take i) q := by
 unfold ksR
 rw [List.take_add_one, h, Option.toList_some, List.filter_append, List.map_append]
 by_cases e : ofK y.k = q
 ·rw [if_pos e, List.filter_cons_of_pos (by simpa using e)]
  rfl
 ·rw [if_neg e, List.filter_cons_of_neg (by simpa using e)]
  exact List.append_nil _
theorem ksR_len (l : List Px) (q : Int) (i : Nat) : (ksR (l.take i) q).length ≤ l.length := by
 unfold ksR
 rw [List.length_map]
 exact Nat.le_trans (List.length_filter_le _ _) (by rw [List.length_take]; exact Nat.min_le_right _ _)
theorem RsOk.key {s : Rs} {S : Vt} (hs : RsOk s S) (hV : VtOk S) {i : Nat} {y : Px} (hy : s.ys[i]? = some y) : keyB y.k = true := by
 have h1 := hs.at_ i
 rw [hy] at h1
 exact hV.key _ (List.mem_of_getElem? h1.symm)
set_option maxHeartbeats 4000000 in
set_option maxRecDepth 100000 in
theorem rfull_d (d dl : Nat) (S : Vt) (hV : VtOk S) (hl : S.b.length ≤ 3000) (s : Rs) (hs' : RsOk s S) (k : ByteArray) : Does Tryz.prog 58 #[.pointer (some ⟨d, 0, none⟩), .string k] [boxT d (.cells (rvC dl S.inc S.dots S.has S.ring (.slice s.rp S.ring.p.2.2.length s.rc) (.slice s.p s.ys.length s.c)).toArray 91 (0, 0)), rowT elemPx (.slice s.p s.ys.length s.c) s.ys] (.bool (fullV S k)) [boxT d (.cells (rvC dl S.inc S.dots S.has S.ring (.slice s.rp S.ring.p.2.2.length s.rc) (.slice s.p s.ys.length s.c)).toArray 91 (0, 0)), rowT elemPx (.slice s.p s.ys.length s.c) s.ys] := by
 intro w H hp
 have HM0 := Lib.hid (mem_refl hp)
 clear hp
 have hs := Lib.hid hs'
 clear hs'
 have hyl : s.ys.length ≤ 3000 := by rw [hs.out.len]; exact hl
 go_enter Tryz.func58, Tryz.ntmps58
 refine wp_seq (wQ ?_)
 refine wp_seq ?_
 obtain ⟨z, hb'⟩ := bool_letter (hasK S k)
 have hb := Lib.hid hb'
 clear hb'
 have hle := hs.out.len
 cases z
 ·have hfu : Hid (fullV S k = decide (200 ≤ s.ys.length)) := Lib.hid (by unfold fullV; rw [hb.out, hle, Bool.not_false, Bool.true_and])
  refine wN [(0, 1), (1, 1), (2, 3), (3, 1), (4, 1), (5, 1), (6, 1), (7, 1)] (wT [0, 1] ?_)
  refine wD2 2 [] [_, _] Tryz.call71 (rat_d d dl S hV hl s hs.out k) HM0 [0, 0] fun W2 hm1 => ?_
  rw [hb.out]
  have HM3 := Lib.hid hm1
  clear hm1
  refine wT [3, 4, 5, 6, 7] ?_
  refine wZ (wp_seq (wN [(0, 1), (1, 1), (2, 1), (3, 1), (4, 1), (5, 1), (6, 1), (7, 1), (8, 1), (9, 1), (10, 1)] (wT [0, 1, 2, 3, 4, 5] ?_)))
  refine wM 6 (.slice s.p s.ys.length s.c) (HM3.out.part1 0 rfl rvC_bags) Tryz.underlying89 ?_
  refine wT [7, 8, 9, 10] ?_
  refine wZ (wp_ret (bodyPost_ret (results_tmp rfl _ _ _) rfl ?_))
  rw [hfu.out]
  exact does_ret (Mem.only (M := [_, _]) HM3.out [0, 0] rfl) (by first | rfl | exact congrArg Value.bool (decide_eq_decide.2 (by omega))) rfl
 ·have hfu : Hid (fullV S k = false) := Lib.hid (by unfold fullV; rw [hb.out]; rfl)
  refine wN [(0, 1), (1, 1), (2, 3), (3, 1), (4, 1), (5, 1), (6, 1), (7, 1)] (wT [0, 1] ?_)
  refine wD2 2 [] [_, _] Tryz.call71 (rat_d d dl S hV hl s hs.out k) HM0 [0, 0] fun W5 hm4 => ?_
  rw [hb.out]
  have HM6 := Lib.hid hm4
  clear hm4
  refine wT [3, 4, 5, 6, 7] ?_
  refine wZ (wp_seq (wN [(0, 1), (1, 1), (2, 1), (3, 1), (4, 1), (5, 1), (6, 1), (7, 1), (8, 1), (9, 1), (10, 1)] (wT [0, 1, 2, 3, 4, 5] ?_)))
  refine wK 6 ?_
  refine wT [7, 8, 9, 10] ?_
  refine wZ (wp_ret (bodyPost_ret (results_tmp rfl _ _ _) rfl ?_))
  rw [hfu.out]
  exact does_ret (Mem.only (M := [_, _]) HM6.out [0, 0] rfl) (by first | rfl | exact congrArg Value.bool (decide_eq_decide.2 (by omega))) rfl
set_option maxHeartbeats 4000000 in
set_option maxRecDepth 100000 in
theorem rbag_d (d dl : Nat) (S : Vt) (hV : VtOk S) (hl : S.b.length ≤ 3000) (s : Rs) (hs' : RsOk s S) (k : ByteArray) : Does Tryz.prog 38 #[.pointer (some ⟨d, 0, none⟩), .string k] [boxT d (.cells (rvC dl S.inc S.dots S.has S.ring (.slice s.rp S.ring.p.2.2.length s.rc) (.slice s.p s.ys.length s.c)).toArray 91 (0, 0)), rowT elemPx (.slice s.p s.ys.length s.c) s.ys] (bgV (bagV S k).k (slR s S k)) [boxT d (.cells (rvC dl S.inc S.dots S.has S.ring (.slice s.rp S.ring.p.2.2.length s.rc) (.slice s.p s.ys.length s.c)).toArray 91 (0, 0)), rowT elemPx (.slice s.p s.ys.length s.c) s.ys] := by
 intro w H hp
 have HM0 := Lib.hid (mem_refl hp)
 clear hp
 have hs := Lib.hid hs'
 clear hs'
 have hyl : s.ys.length ≤ 3000 := by rw [hs.out.len]; exact hl
 go_enter Tryz.func38, Tryz.ntmps38
 refine wp_seq (wN [(0, 3)] ?_)
 refine wpS_alloc (i := 0) (dd := 4) (z := bgV noB.k (.slice none 0 0)) (cs := (bgC noB.k (.slice none 0 0)).toArray) rfl (by rfl) rfl (by kernel_rfl) rfl HM0.out covS_nil rfl ?_
 rintro b3 W2 hm1 -
 have HM4 := Lib.hid hm1
 clear hm1
 simp only [Act.put, List.setIfInBounds_toArray, List.set_cons_succ, List.set_cons_zero]
 refine wZ (wp_seq (wp_seq ?_))
 rcases bag_ways hs.out hV k with ⟨hb', y, hy', hbg', hsl'⟩ | ⟨hb', hbg', hsl'⟩
 ·have hb := Lib.hid hb'
  clear hb'
  have hy := Lib.hid hy'
  clear hy'
  have hbg := Lib.hid hbg'
  clear hbg'
  have hsl := Lib.hid hsl'
  clear hsl'
  refine wN [(0, 1), (1, 1), (2, 3), (3, 1), (4, 1), (5, 1), (6, 1), (7, 1)] (wT [0, 1] ?_)
  refine wD2 2 [_] [_, _, _] Tryz.call71 (rat_d d dl S hV hl s hs.out k) HM4 [1, 1] fun W6 hm5 => ?_
  rw [hb.out]
  have HM7 := Lib.hid hm5
  clear hm5
  refine wT [3, 4, 5, 6, 7] ?_
  refine wZ (wp_seq (wQ ?_))
  refine wp_cond_true rfl (wp_seq (wN [(0, 1), (1, 1), (2, 1), (3, 1), (4, 1), (5, 1), (6, 1), (7, 1), (8, 3)] (wT [0, 1, 2] ?_)))
  refine wM 3 (.slice s.p s.ys.length s.c) (HM7.out.part1 0 rfl rvC_bags) Tryz.underlying89 ?_
  refine wT [4] ?_
  refine wI elemPx 5 (rowAt_src (Mem.src HM7.out 1 rfl rowT_reads)) (hy.out) fun eb8 eo9 hc10 => ?_
  refine wT [6] ?_
  refine wL 7 (bgC y.b.k (.slice y.p y.n y.c)) (px_bag hc10) Tryz.underlying43 ?_
  refine wpS_storeA (i := 8) (L2 := [_, _]) (cs' := bgC (y.b.k) (.slice y.p y.n y.c)) rfl (by rfl) rfl rfl rfl (by kernel_rfl) (bgC_one _ _ _) HM7.out 2 rfl rfl (by kernel_rfl) (by kernel_rfl) covS_nil rfl ?_
  rintro W12 hm11 -
  have HM13 := Lib.hid hm11
  clear hm11
  refine wZ (wp_ret (then_ret ?_))
  refine ret_cell rfl HM13.out 0 rfl rfl Tryz.underlying43 rfl (by kernel_rfl) rfl ?_
  rw [hbg.out, hsl.out]
  exact does_ret (Mem.only (M := [_, _]) HM13.out [1, 1] rfl) rfl rfl
 ·have hb := Lib.hid hb'
  clear hb'
  have hbg := Lib.hid hbg'
  clear hbg'
  have hsl := Lib.hid hsl'
  clear hsl'
  refine wN [(0, 1), (1, 1), (2, 3), (3, 1), (4, 1), (5, 1), (6, 1), (7, 1)] (wT [0, 1] ?_)
  refine wD2 2 [_] [_, _, _] Tryz.call71 (rat_d d dl S hV hl s hs.out k) HM4 [1, 1] fun W15 hm14 => ?_
  rw [hb.out]
  have HM16 := Lib.hid hm14
  clear hm14
  refine wT [3, 4, 5, 6, 7] ?_
  refine wZ (wp_seq (wQ ?_))
  refine wp_cond_false rfl (wp_skip (then_normal (wp_seq (wN [(0, 1), (1, 3)] (wT [0] ?_)))))
  refine wpS_storeA (i := 1) (L2 := [_, _]) (cs' := bgC (noB.k) (.slice none 0 0)) rfl (by rfl) rfl rfl rfl (by kernel_rfl) (bgC_one _ _ _) HM16.out 2 rfl rfl (by kernel_rfl) (by kernel_rfl) covS_nil rfl ?_
  rintro W18 hm17 -
  have HM19 := Lib.hid hm17
  clear hm17
  refine wZ (wp_ret ?_)
  refine ret_cell rfl HM19.out 0 rfl rfl Tryz.underlying43 rfl (by kernel_rfl) rfl ?_
  rw [hbg.out, hsl.out]
  exact does_ret (Mem.only (M := [_, _]) HM19.out [1, 1] rfl) rfl rfl
set_option maxHeartbeats 4000000 in
set_option maxRecDepth 100000 in
theorem rkeys_d (d dl : Nat) (S : Vt) (hV : VtOk S) (hl : S.b.length ≤ 3000) (s : Rs) (hs' : RsOk s S) (q : Int) : DoesU Tryz.prog 49 #[.pointer (some ⟨d, 0, none⟩), .int .i64 q] [boxT d (.cells (rvC dl S.inc S.dots S.has S.ring (.slice s.rp S.ring.p.2.2.length s.rc) (.slice s.p s.ys.length s.c)).toArray 91 (0, 0)), rowT elemPx (.slice s.p s.ys.length s.c) s.ys] (fun u => [textsT u (keysV S q), boxT d (.cells (rvC dl S.inc S.dots S.has S.ring (.slice s.rp S.ring.p.2.2.length s.rc) (.slice s.p s.ys.length s.c)).toArray 91 (0, 0)), rowT elemPx (.slice s.p s.ys.length s.c) s.ys]) := by
 intro w H hp
 have HM0 := Lib.hid (mem_refl hp)
 clear hp
 have hs := Lib.hid hs'
 clear hs'
 have hyl : s.ys.length ≤ 3000 := by rw [hs.out.len]; exact hl
 go_enter Tryz.func49, Tryz.ntmps49
 refine wp_seq (wQ ?_)
 refine wp_seq (wQ ?_)
 refine wp_seq (wp_seq (wN [(0, 1), (1, 1), (2, 1), (3, 1), (4, 1), (5, 1)] (wT [0, 1, 2] ?_)))
 refine wM 3 (.slice s.p s.ys.length s.c) (HM0.out.part1 0 rfl rvC_bags) Tryz.underlying89 ?_
 refine wT [4, 5] ?_
 refine wZ (wp_block ?_)
 refine wp_loop_F [5, 7, 13, 14, 15, 16, 17, 18, 19, 20, 21, 22, 23, 24, 25, 26, 27] (fun n vs W' => ∃ (i : Nat) (pu : Option Addr) (cu : Nat), n = s.ys.length - i ∧ vs 13 = .int .i64 (i : Int) ∧ vs 5 = .slice pu (ksR (s.ys.take i) q).length cu ∧ i ≤ s.ys.length ∧ Mem [rowT elemS (.slice pu (ksR (s.ys.take i) q).length cu) (ksR (s.ys.take i) q), boxT d (.cells (rvC dl S.inc S.dots S.has S.ring (.slice s.rp S.ring.p.2.2.length s.rc) (.slice s.p s.ys.length s.c)).toArray 91 (0, 0)), rowT elemPx (.slice s.p s.ys.length s.c) s.ys] H w W') (n0 := s.ys.length) ?_ ?_
 ·exact ⟨0, none, 0, rfl, rfl, rfl, Nat.zero_le _, Mem.nilRow elemS (Mem.only (M := [_, _]) HM0.out [0, 0] rfl)⟩
 rintro n vs W' ⟨i, pu, cu, rfl, e13, e5, hi, hm⟩
 simp only [putAll, List.map_cons, List.map_nil, Act.put, List.setIfInBounds_toArray, List.set_cons_succ, List.set_cons_zero]
 rw [e13, e5]
 clear e13 e5
 have HM1 := Lib.hid hm
 clear hm
 refine wp_seq (wQ ?_)
 refine wp_seq ?_
 refine wp_cond_split rfl (fun h2 => ?_) (fun h2 => ?_)
 ·have hi1 : i + 1 ≤ s.ys.length := by have : (i : Int) < ((s.ys.length : Nat) : Int) := (by simpa using h2); omega
  clear h2
  obtain ⟨y, hy'⟩ : ∃ y, s.ys[i]? = some y := ⟨_, List.getElem?_eq_getElem (hi1)⟩
  have hy := Lib.hid hy'
  clear hy'
  refine wp_skip (then_normal (wp_seq (wp_block (wp_seq (wN [(0, 1), (1, 1), (2, 3), (3, 3)] ?_)))))
  refine wI elemPx 0 (rowAt_src (Mem.src HM1.out 2 rfl rowT_reads)) (hy.out) fun eb3 eo4 hc5 => ?_
  refine wL 1 y.enc hc5 Tryz.underlying45 ?_
  refine wpS_alloc (i := 2) (dd := 7) (z := prV ⟨#[]⟩ noB.k (.slice none 0 0)) (cs := (prC ⟨#[]⟩ noB.k (.slice none 0 0)).toArray) rfl (by rfl) rfl (by kernel_rfl) rfl HM1.out covS_nil rfl ?_
  rintro b8 W7 hm6 -
  have HM9 := Lib.hid hm6
  clear hm6
  simp only [Act.put, List.setIfInBounds_toArray, List.set_cons_succ, List.set_cons_zero]
  refine wpS_storeA (i := 3) (L2 := [_, _, _]) (cs' := prC y.k y.b.k (.slice y.p y.n y.c)) rfl (by rfl) rfl rfl rfl (by kernel_rfl) (prC_one _ _ _) HM9.out 0 rfl rfl (by kernel_rfl) (by kernel_rfl) covS_nil rfl ?_
  rintro W11 hm10 -
  have HM12 := Lib.hid hm10
  clear hm10
  refine wZ (wp_seq ?_)
  have hst' := ksR_step q hy.out
  by_cases hq : ofK y.k = q
  ·rw [if_pos hq] at hst'
   have g1 : (ofK y.k == q) = true := beq_iff_eq.2 hq
   replace hq := Lib.hid hq
   have hst := Lib.hid hst'
   clear hst'
   refine wN [(0, 1), (1, 1), (2, 3), (3, 1), (4, 1)] (wT [0] ?_)
   refine wM 1 (.string y.k) (HM12.out.part1 0 rfl prC_key) Tryz.underlying9 ?_
   refine wD1h 2 [_, _, _, _] [_, _, _, _] Tryz.call31 (ofrd_d y.k (Nat.le_trans (keyB_size (hs.out.key hV hy.out)) (by decide))) HM12 [] fun W14 HM15 => ?_
   refine wT [3, 4] ?_
   refine wZ (wp_cond_true rfl (wN [(0, 1), (1, 1), (2, 1), (3, 3), (4, 3), (5, 1)] (wT [0, 1] ?_)))
   refine wM 2 (.string y.k) (HM15.out.part1 0 rfl prC_key) Tryz.underlying9 ?_
   refine wpS_build1 elemS (i := 3) (dd := 25) (y := y.k) rfl (by rfl) rfl rfl rfl (by decide) HM15.out covS_nil rfl ?_
   rintro b18 W19 hm20 -
   have HM21 := Lib.hid hm20
   clear hm20
   simp only [Act.put, List.setIfInBounds_toArray, List.set_cons_succ, List.set_cons_zero]
   refine wpS_append (E := elemS) (i := 4) (d := some 26) (L2 := [_, _, _, _]) rfl (by rfl) rfl HM21.out 2 rfl rfl (HM21.out.src 0 rfl rowT_reads) rfl (by have := ksR_len s.ys q i; show (_ + 1) * 16 ≤ 140737488355328; omega) rfl covS_nil rfl ?_
   rintro u24 W25 hm26 -
   have HM27 := Lib.hid hm26
   clear hm26
   simp only [Act.put, List.setIfInBounds_toArray, List.set_cons_succ, List.set_cons_zero]
   obtain ⟨up, uc, hup⟩ := row_form (Mem.src HM27.out 0 rfl rowT_reads)
   subst hup
   refine wT [5] ?_
   refine wpS_nil (block_normal (then_normal (wQ ?_)))
   refine ⟨by kernel_rfl, ?_⟩
   refine ⟨s.ys.length - (i + 1), by omega, i + 1, up, uc, rfl, rfl, (by rw [hst.out]; rfl), hi1, ?_⟩
   rw [hst.out]
   exact (Mem.only (M := [_, _, _]) HM27.out [0, 2, 2] rfl)
  ·rw [if_neg hq] at hst'
   have g1 : (ofK y.k == q) = false := beq_eq_false_iff_ne.2 hq
   replace hq := Lib.hid hq
   have hst := Lib.hid hst'
   clear hst'
   refine wN [(0, 1), (1, 1), (2, 3), (3, 1), (4, 1)] (wT [0] ?_)
   refine wM 1 (.string y.k) (HM12.out.part1 0 rfl prC_key) Tryz.underlying9 ?_
   refine wD1h 2 [_, _, _, _] [_, _, _, _] Tryz.call31 (ofrd_d y.k (Nat.le_trans (keyB_size (hs.out.key hV hy.out)) (by decide))) HM12 [] fun W29 HM30 => ?_
   refine wT [3, 4] ?_
   refine wZ (wp_cond_false rfl (wp_skip (block_normal (then_normal (wQ ?_)))))
   refine ⟨by kernel_rfl, ?_⟩
   refine ⟨s.ys.length - (i + 1), by omega, i + 1, pu, cu, rfl, rfl, (by rw [hst.out]; rfl), hi1, ?_⟩
   rw [hst.out]
   exact (Mem.only (M := [_, _, _]) HM30.out [1, 1, 1] rfl)
 ·have hge : Hid (s.ys.length ≤ i) := Lib.hid (by have : ¬ (i : Int) < ((s.ys.length : Nat) : Int) := (by simpa using h2); omega)
  clear h2
  refine wp_exit ?_
  refine then_exit (then_exit (block_exit ?_))
  refine then_normal (wp_seq (wQ ?_))
  refine wp_ret (bodyPost_ret (results_tmp rfl _ _ _) rfl ?_)
  rw [show keysV S q = ksR (s.ys.take i) q from (ksR_all hs.out q).symm.trans (by rw [List.take_of_length_le hge.out])]
  exact doesU_ret (post := fun u => [textsT u (ksR (s.ys.take i) q), boxT d (.cells (rvC dl S.inc S.dots S.has S.ring (.slice s.rp S.ring.p.2.2.length s.rc) (.slice s.p s.ys.length s.c)).toArray 91 (0, 0)), rowT elemPx (.slice s.p s.ys.length s.c) s.ys]) (Mem.toTexts (Mem.only (M := [_, _, _]) HM1.out [0, 0, 0] rfl)) rfl
end Go.Proofs.YtcbnhakfijiioaaGreat
