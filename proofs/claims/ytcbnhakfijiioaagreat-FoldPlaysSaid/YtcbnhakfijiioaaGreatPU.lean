/- PU: FdI, FdU. -/
import Derived.Test.YtcbnhakfijiioaaGreatPD
import Derived.Test.YtcbnhakfijiioaaGreatVtB
import Derived.Test.YtcbnhakfijiioaaGreatPA
import Derived.RangeFuncNested
import Derived.RangeFuncBound
import Derived.RangeFuncCalls
import Derived.RangeFuncLeaves
import Derived.Shelf.Abstract
import Derived.Shelf.RegionOpen
import Derived.WalkKit
import Derived.OwnWalkIn
import Derived.TacticsInMore
import Derived.LoopNIn
import Derived.LoopIn
import Derived.Maps.AppendAt
import Derived.Sort.OwnSorted
namespace Go.Proofs.YtcbnhakfijiioaaGreat
open Go Go.RowKit Go.BigFrame
def itDV (c : Nat) : Value := .func (.func 97) #[] #[.pointer (some ⟨c, 0, none⟩)]
def itD (v u : Value) : At := exT fun c : Nat => [prT (u = itDV c), boxT c (.cells #[v] 94 (0, 0))]
theorem Mem.itD {v u : Value} {L : List At} {H0 : Nat → Prop} {w W : World} (h : Mem (itD v u :: L) H0 w W) : ∃ c, u = itDV c ∧ Mem (boxT c (.cells #[v] 94 (0, 0)) :: L) H0 w W := by
 obtain ⟨c, h⟩ := Mem.ex h
 obtain ⟨hu, h⟩ := Mem.pr h
 exact ⟨c, hu, h⟩
set_option maxHeartbeats 4000000 in
set_option maxRecDepth 100000 in
theorem dvals_d (p : Option Addr) (n m : Nat) : DoesU Tryz.prog 61 #[.slice p n m] [] (fun u => [itD (.slice p n m) u]) := by
 intro w H hp
 have HM0 := Lib.hid (mem_refl hp)
 clear hp
 go_enter Tryz.func61, Tryz.ntmps61
 refine wp_seq (wN [(0, 3), (1, 1)] ?_)
 refine wpS_box1 (i := 0) (dd := 1) rfl (by rfl) rfl rfl rfl HM0.out covS_nil rfl ?_
 rintro b3 W2 hm1 -
 have HM4 := Lib.hid hm1
 clear hm1
 simp only [Act.put, List.setIfInBounds_toArray, List.set_cons_succ, List.set_cons_zero]
 refine wT [1] ?_
 refine wZ (wp_seq (wN [(0, 0), (1, 1)] ?_))
 refine wpS_funcC1 (i := 0) (d := some 3) rfl (by rfl) rfl rfl rfl ?_
 simp only [Act.put, List.setIfInBounds_toArray, List.set_cons_succ, List.set_cons_zero]
 refine wT [1] ?_
 refine wZ (wp_ret (bodyPost_ret (results_tmp rfl _ _ _) rfl ?_))
 exact doesU_ret (post := fun u => [itD (.slice p n m) u]) (Mem.addEx b3 (Mem.addPr rfl (Mem.only (M := [_]) HM4.out [0] rfl))) rfl
end Go.Proofs.YtcbnhakfijiioaaGreat
namespace Go.Proofs.YtcbnhakfijiioaaGreat
open Go Go.RowKit Go.Shelf Go.Sort
attribute [local go_sem] Oper.semAt_some
structure KeysAt (n₀ : Nat) (W : World) (v : Value) (zs : List ByteArray) : Prop where
 form : ∃ p cap, v = .slice p zs.length cap ∧ (zs = [] ∨ ∃ b o, p = some ⟨b, o, none⟩ ∧ b < n₀ ∧ ∀ j x, zs[j]? = some x → W.cell? ⟨b, o + j, none⟩ = some (.string x))
theorem KeysAt.below {n₀ : Nat} {A B : World} {v : Value} {zs : List ByteArray} (h : KeysAt n₀ A v zs) (hb : Below n₀ A B) : KeysAt n₀ B v zs := by
 obtain ⟨p, cap, hv, h | ⟨b, o, hp, hlt, hc⟩⟩ := h
 ·exact ⟨p, cap, hv, .inl h⟩
 ·exact ⟨p, cap, hv, .inr ⟨b, o, hp, hlt, fun j x hx => (hb.cell (p := ⟨b, o + j, none⟩) hlt).trans (hc j x hx)⟩⟩
theorem take_one {zs : List ByteArray} {k : Nat} {x : ByteArray} (h : zs[k]? = some x) : zs.take (k + 1) = zs.take k ++ [x] := by rw [List.take_add_one, h]; rfl
set_option maxRecDepth 100000 in
set_option maxHeartbeats 2000000 in
theorem told_in (F : Fence) (n : Nat) (hf : F.fn 97) (hro : F.round = none) (hn : 1 ≤ n) (l Bs n₀ : Nat) (v : Value) (zs : List ByteArray) (hl : zs.length ≤ 2000) (J Jx : List ByteArray → World → Prop)
  (hY : ∀ pre x W, J pre W → pre.length < zs.length → YieldAt F (n - 1) Tryz.prog l #[.string x] W fun e W' => (e = .returned (.bool true) ∧ J (pre ++ [x]) W' ∧ Below n₀ W W') ∨ (e = .returned (.bool false) ∧ Jx (pre ++ [x]) W'))
  (W : World) (hBs : W.cell? ⟨Bs, 0, none⟩ = some v) (hk : KeysAt n₀ W v zs) (h0 : J [] W) :
  CallsIn F n Tryz.prog 97 #[.func (.yield l) #[] #[], .pointer (some ⟨Bs, 0, none⟩)] W fun e W' => (∃ u, e = .returned u) ∧ ((∃ ys, ys = zs ∧ J ys W') ∨ (∃ pre, pre <+: zs ∧ Jx pre W')) := by
 obtain ⟨p, cap, rfl, hz⟩ := hk
 refine callsIn_of_wp Tryz.func97 rfl hf ?_ hro
 simp only [Tryz.ntmps97, List.size_toArray, List.length_cons, List.length_nil, Nat.reduceAdd, Nat.reduceSub, Array.replicate_succ, Array.replicate_zero, List.push_toArray, List.append_toArray, List.nil_append, List.cons_append]
 obtain ⟨len, hlen⟩ : ∃ len, zs.length = len := ⟨_, rfl⟩
 rw [hlen] at hBs hY hl
 gi_wp2
 gi_loopw [7] (fun i wr => ∃ k : Nat, k ≤ len ∧ i = .int .i64 k ∧ J (zs.take k) wr ∧ Below n₀ W wr) (fun i _ => len - (intOf i).toNat)
 case atStart => exact ⟨0, Nat.zero_le _, rfl, h0, Below.refl _ _⟩
 case round =>
  obtain ⟨k, hk, rfl, hJ, hbl⟩ := hrel
  by_cases hlt : k < len
  ·obtain ⟨x, hx⟩ : ∃ x, zs[k]? = some x := ⟨_, List.getElem?_eq_getElem (by omega)⟩
   have htk := take_one hx
   rcases hz with hz | ⟨b, o, rfl, hb, hc⟩
   ·rw [hz] at hlen
    simp at hlen
    omega
   have hcx : wr.cell? ⟨b, o + k, none⟩ = some (.string x) := (hbl.cell (p := ⟨b, o + k, none⟩) hb).trans (hc k x hx)
   obtain ⟨fn, tmps, assign, body, hy, hR⟩ := hY _ x wr hJ (by rw [List.length_take]; omega)
   gi_wp2
   refine hR.mono ?_
   rintro e W3 (⟨rfl, hJ3, hk3⟩ | ⟨rfl, hJx3⟩)
   ·gi_wp2
    go_roundw
    case rel => exact ⟨k + 1, by omega, by simp, by rw [htk]; exact hJ3, hbl.trans hk3⟩
    case measure => simp [intOf]; omega
   ·gi_wp2
    refine bodyPost_ret (results_none rfl _ _ _) rfl ?_
    exact ⟨⟨_, rfl⟩, .inr ⟨_, by rw [← htk]; exact List.take_prefix _ _, hJx3⟩⟩
  ·obtain rfl : k = len := by omega
   gi_wp2
   go_end0
   exact ⟨⟨_, rfl⟩, .inl ⟨_, List.take_of_length_le (by omega), hJ⟩⟩
theorem told_stops (F : Fence) (n : Nat) (hf : F.fn 97) (hro : F.round = none) (hn : 1 ≤ n) (Bs n₀ : Nat) (v : Value) (zs : List ByteArray) (hl : zs.length ≤ 2000) (w : World) (hBs : Bs < w.heap.size) (hn₀ : n₀ ≤ w.heap.size) (hc : w.cell? ⟨Bs, 0, none⟩ = some v) (hk : KeysAt n₀ w v zs) :
  SeqStopsK F n Tryz.prog 97 #[.pointer (some ⟨Bs, 0, none⟩)] (fun x : ByteArray => #[Value.string x]) (Below n₀) (fun ys => ys = zs) (fun pre => pre <+: zs) zs.length w := fun l J Jx W hW _ _ hY h0 =>
 told_in F n hf hro hn l Bs n₀ v zs hl J Jx hY W ((hW.cell (p := ⟨Bs, 0, none⟩) hBs).trans hc) (hk.below (hW.mono hn₀)) h0
theorem info_key : (Tryz.prog.info? 9).map (fun i => (i.zero, i.size, i.bytes)) = some (some (.string ⟨#[]⟩), 1, 16) := by kernel_rfl
set_option maxRecDepth 100000 in
set_option maxHeartbeats 2000000 in
theorem laid_in (F : Fence) (n : Nat) (hf : F.fn 112) (hg : F.fn 97) (hro : F.round = none) (hn : 3 ≤ n) (Bs : Nat) (v : Value) (zs : List ByteArray) (hl : zs.length ≤ 2000) (w : World) (hBs : Bs < w.heap.size) (hc : w.cell? ⟨Bs, 0, none⟩ = some v) (hk : KeysAt w.heap.size w v zs) :
  CallsIn F n Tryz.prog 112 #[.slice none 0 0, itDV Bs] w fun e W' => ∃ u, e = .returned u ∧ W'.ownsRow w.heap.size 9 1 u zs.length (zs.map Value.string) ∧ (u = .slice none 0 0 ↔ zs = []) ∧ Below w.heap.size w W' := by
 have h1 : 1 ≤ n := by omega
 obtain ⟨i0, hi, hz0, hz1, hz2⟩ := info_parts info_key
 refine callsIn_of_wp_marks Tryz.func112 rfl hf ?_ hro
 simp only [Tryz.ntmps112, List.size_toArray, List.length_cons, List.length_nil, Nat.reduceAdd, Nat.reduceSub, Array.replicate_succ, Array.replicate_zero, List.push_toArray, List.append_toArray, List.nil_append, List.cons_append]
 unfold itDV
 gi_wp2
 have bO := Boxed.new w 59 (.slice none 0 0)
 have hB0 : Below w.heap.size w (w.alloc (.cells #[.slice none 0 0] 59)) := (Below.refl _ w).alloc (Nat.le_refl _) _
 have hc0 : (w.alloc (.cells #[.slice none 0 0] 59)).cell? ⟨Bs, 0, none⟩ = some v := (hB0.cell (p := ⟨Bs, 0, none⟩) hBs).trans hc
 refine wpIn_rangeFunc_ownF hro h1 (gf := 97) (lb := #[.pointer (some ⟨Bs, 0, none⟩)]) rfl hg (enters_of Tryz.func97 (by kernel_rfl) rfl)
  (told_stops F (n - 1) hg hro (by omega) Bs w.heap.size v zs hl _ (by simp; omega) (by simp) hc0 (hk.below hB0)) belowK_t (belowK_b (by simp)) (Below.refl _ _) (fun _ => rfl)
  (fun pre W => (∃ u, Boxed W w.heap.size 59 u ∧ W.ownsRow w.heap.size 9 1 u pre.length (pre.map Value.string) ∧ (u = .slice none 0 0 ↔ pre = [])) ∧ Below w.heap.size w W)
  (fun _ _ _ => False)
  (OwnFrom.and (Own.from (holdsRow_own w.heap.size w.heap.size 59 9 1 (fun pre : List ByteArray => pre.length) (fun pre => pre.map Value.string) (fun pre u => u = .slice none 0 0 ↔ pre = [])) _) (ownFrom_below (Nat.le_refl _) (by simp)))
  (fun _ _ _ _ _ hs _ _ => hs)
  ⟨⟨_, bO, World.ownsRow_nil _ _ _ _, by simp⟩, hB0⟩
  (fun x => { tmps := #[.slice none 0 0, .func (.func 97) #[] #[.pointer (some ⟨Bs, 0, none⟩)], .pointer (some ⟨w.heap.size, 0, none⟩), undef, .slice none 0 0, .string x, .func (.func 97) #[] #[.pointer (some ⟨Bs, 0, none⟩)], .string x, undef, undef, undef, undef, undef], defers := [] }) ?assign ?body ?done ?stop
 case assign =>
  intro l x W K hK
  gi_wp2
  exact hK
 case body =>
  rintro l pre x W ⟨⟨u, hv, hrow, hnil⟩, hB⟩ hlt
  have hcu := hv.cell
  gi_wp2_with (gi_at_builtin; refine wpListIn_append_own _ rfl _ _ 59 rfl w.heap.size 9 i0 (.string ⟨#[]⟩) 1 16 Tryz.underlying59 hi hz0 hz1 hz2 rfl (by decide) _ _ _ rfl (hrow.alloc _) ⟨W.heap.size, 0, none⟩ 1 1 [.string x] rfl rfl (cell_one_new _ _ _) (by simp [Value.oneCell']) (by unfold maxLen; omega) (by omega) (by have := hB.size; simp; omega) ?_; intro v' w1 hown' hgrow _; obtain ⟨g', cap', rfl⟩ := ownsRow_succ hown'; obtain ⟨hv1, hv2, hr2, hk2, hb2⟩ := hv.appended (by decide) hrow hB.size (Nat.le_refl _) hown' hgrow; have hc1 := hv1.cell; have hf1 := hv1.frozen)
  exact ⟨hk2, hb2, ⟨_, hv2, by simpa using hr2, by simp⟩, hB.trans hb2⟩
 case done =>
  rintro D ys W hD rfl ⟨⟨u, hv, hrow, hnil⟩, hB⟩ hK
  have hcu := hv.cell
  gi_wp2
  refine ⟨by simp, .inl ⟨_, _, rfl, run_takeDeferred hK, ?_⟩⟩
  exact ⟨_, results_tmp rfl _ _ _, u, rfl, ownsRow_putObj hrow _ hK rfl, hnil, hB.trans (belowK_b (w := w) (Nat.le_refl _) W D _ _ (by simp at hD; omega) hK rfl rfl)⟩
 case stop =>
  rintro D c pre W _ _ h _
  exact h.elim
set_option maxHeartbeats 1000000 in
theorem collected_in (F : Fence) (n : Nat) (hf : F.fn 95) (hf2 : F.fn 112) (hg : F.fn 97) (hro : F.round = none) (hn : 4 ≤ n) (Bs : Nat) (v : Value) (zs : List ByteArray) (hl : zs.length ≤ 2000) (w : World) (hBs : Bs < w.heap.size) (hc : w.cell? ⟨Bs, 0, none⟩ = some v) (hk : KeysAt w.heap.size w v zs) :
  CallsIn F n Tryz.prog 95 #[itDV Bs] w fun e W' => ∃ u, e = .returned u ∧ W'.ownsRow w.heap.size 9 1 u zs.length (zs.map Value.string) ∧ (u = .slice none 0 0 ↔ zs = []) ∧ Below w.heap.size w W' := by
 have h1 : 1 ≤ n := by omega
 have hL := laid_in F (n - 1) hf2 hg hro (by omega) Bs v zs hl w hBs hc hk
 refine callsIn_of_wp Tryz.func95 rfl hf ?_ hro
 simp only [Tryz.ntmps95, List.size_toArray, List.length_cons, List.length_nil, Nat.reduceAdd, Nat.reduceSub, Array.replicate_succ, Array.replicate_zero, List.push_toArray, List.append_toArray, List.nil_append, List.cons_append]
 unfold itDV at *
 gi_wp2_with (gi_at_call 112; refine hL.mono ?_; rintro e w' ⟨u, rfl, hrow, hnil, hb⟩)
 go_ret
 exact ⟨u, rfl, hrow, hnil, hb⟩
theorem enc_keys (zs : List ByteArray) : zs.map Value.string = (zs.map bysK).map Go.Proofs.encStr := by
 rw [List.map_map]
 rfl
set_option maxHeartbeats 1000000 in
theorem rising_in (Bs : Nat) (v : Value) (zs D : List ByteArray) (hp : zs.Perm D) (hD : D.Pairwise ltK) (hl : zs.length ≤ 2000) (w : World) (hBs : Bs < w.heap.size) (hc : w.cell? ⟨Bs, 0, none⟩ = some v) (hk : KeysAt w.heap.size w v zs) :
  CallsIn Fence.wide 5 Tryz.prog 60 #[itDV Bs] w fun e W' => ∃ u, e = .returned u ∧ W'.ownsRow w.heap.size 9 1 u D.length (D.map Value.string) ∧ Below w.heap.size w W' := by
 have h1 : 1 ≤ 5 := by omega
 have hL := collected_in Fence.wide 4 trivial trivial trivial rfl (by omega) Bs v zs hl w hBs hc hk
 have hks : (zs.map bysK).mergeSort (fun x y => decide (x ≤ y)) = D.map bysK := sorted_keys hD (hp.map bysK)
 have hSo := vsorts 4
 have hf1 : Fence.wide.fn 95 := trivial
 have hf2 : Fence.wide.fn 96 := trivial
 refine callsIn_of_wp Tryz.func60 rfl trivial ?_ rfl
 simp only [Tryz.ntmps60, List.size_toArray, List.length_cons, List.length_nil, Nat.reduceAdd, Nat.reduceSub, Array.replicate_succ, Array.replicate_zero, List.push_toArray, List.append_toArray, List.nil_append, List.cons_append]
 unfold itDV at *
 gi_wp2_with (gi_at_call 95; refine hL.mono ?_; rintro e W ⟨u, rfl, hrow, hnil, hb⟩)
 rcases hrow.2 with ⟨rfl, hz⟩ | ⟨gb, cap, cur, rfl, hbase, hgb, r1, r2, r3, r4⟩
 ·have hss : zs = [] := List.eq_nil_of_length_eq_zero hz
  subst hss
  obtain rfl : D = [] := List.eq_nil_of_length_eq_zero hp.length_eq.symm
  gi_wp2_with (gi_at_call 96; refine (hSo.2 none 0 W).mono ?_; rintro e w' ⟨rfl, rfl⟩)
  go_ret
  exact ⟨_, rfl, hrow, hb⟩
 ·have hlen : (zs.map bysK).length = zs.length := List.length_map _
  have hH : Go.Sort.Holds Go.Proofs.encStr W gb 0 (zs.map bysK).toArray := holds_of_block hgb (by rw [hlen, ← enc_keys]; simpa using r4)
  have hgl : gb < W.heap.size := (Array.getElem?_eq_some_iff.1 hgb).1
  have cS := hSo.1 gb 0 cap (zs.map bysK) W hH hgl (by omega)
  rw [hlen, hks] at cS
  gi_wp2_with (gi_at_call 96; refine cS.mono ?_; rintro e w' ⟨rfl, nn, os, rfl⟩)
  go_ret
  have hDl : D.length = zs.length := hp.length_eq.symm
  have ho := ownsRow_sorted (n := nn) (os := os) (ss := zs.map bysK) (ts := D.map bysK) (by rw [hlen, List.length_map, hDl]) hbase hgb (by rw [hlen]; exact r1) r2 r3
  rw [hlen] at ho
  exact ⟨_, rfl, by rw [hDl, enc_keys]; exact ho, hb.grown (grownBy_sorted _) hb.size (fun j hj => by cases hj; exact hbase)⟩
theorem dsorted_d (R : At) (v : Value) (xs D : List ByteArray) (hp : xs.Perm D) (hD : D.Pairwise ltK) (hl : xs.length ≤ 2000) (c : Nat) (hR : Reads elemD R v xs) : DoesU Tryz.prog 60 #[itDV c] [boxT c (.cells #[v] 94 (0, 0)), R] (fun u => [textsT u D, R]) := fun W H hst => by
 have hm : Mem [boxT c (.cells #[v] 94 (0, 0)), R] H W W := mem_refl hst
 have hc : W.cell? ⟨c, 0, none⟩ = some v := hm.cell 0 rfl 0
 have hclt : c < W.heap.size := (Array.getElem?_eq_some_iff.1 (hm.box 0 rfl)).1
 have hk : KeysAt W.heap.size W v xs := by
  obtain ⟨p, cap, hv, hx⟩ := (hm.src 1 rfl hR).1.form
  refine ⟨p, cap, hv, hx.imp id ?_⟩
  rintro ⟨b, o, hp, hb, hcs⟩
  refine ⟨b, o, hp, hb, fun j x hj => ?_⟩
  have := hcs j x hj 0 (.string x) rfl
  rwa [show o + j * elemD.k + 0 = o + j from congrArg (o + ·) (Nat.mul_one j)] at this
 refine (callsIn_wide.1 (rising_in c v xs D hp hD hl W hclt hc hk)).mono ?_
 rintro e w' ⟨u, rfl, hrow, hb⟩
 refine ⟨u, rfl, ?_⟩
 rw [← cellsS] at hrow
 have hrow0 : w'.ownsRow 0 elemS.t elemS.k u D.length (elemS.cells D) := by
  obtain ⟨h1, h2⟩ := hrow
  refine ⟨h1, ?_⟩
  rcases h2 with h2 | ⟨gb, cap, cur, k1, _, k3⟩
  ·exact .inl h2
  ·exact .inr ⟨gb, cap, cur, k1, Nat.zero_le _, k3⟩
 have hm2 : Mem [R] H W W := Mem.only hm [1] rfl
 have hfr : Mem (rowT elemS u D :: [R]) H W w' := SEnd.fresh (stars_owns _) (rowT elemS u _).owns hm2 hb (HQ := fun k => u.ownBlock = some k) ⟨hrow0, fun _ => Iff.rfl⟩ fun k hk => (hrow.lt k hk).1
 obtain ⟨p, cap, rfl⟩ := row_form (Mem.src hfr 0 rfl rowT_reads)
 exact Mem.addEx (p, cap) (Mem.addPr rfl hfr)
end Go.Proofs.YtcbnhakfijiioaaGreat
