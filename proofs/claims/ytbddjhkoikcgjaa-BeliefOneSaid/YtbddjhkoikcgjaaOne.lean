/- BeliefOne's walk. -/
import Derived.Test.YtbddjhkoikcgjaaLists
import Derived.LoopTactic
import Derived.OwnWalk
namespace Go.Proofs.Ytbddjhkoikcgjaa
open Go Go.RowKit

set_option maxHeartbeats 2000000 in
set_option maxRecDepth 100000 in
theorem one_long (v : Value) (l : List Cl) (n : Int) (w : World) (hl : ListAt w v l) (hm : l.length ≤ maxLen) (hlong : 80 < l.length) : Gives Try.prog 6 #[v, .int .i64 n] w (.bool true) := by
  unfold Gives
  have H8 := Lib.hid awake_any
  unfold maxLen at hm
  rcases hl with ⟨rfl, _⟩ | ⟨b, o, cap, rfl, hlt, hc⟩
  · simp at hlong
  · have HC := Lib.hid hc
    clear hc
    go_enter Try.func6, Try.ntmps6
    go_wp2_with fail
    refine Gives.mono' (H8.out _) ?_
    intro x
    go_wp2_with fail
    go_ret
    exact ⟨rfl, Later.ex (by repeat (first | exact ext_refl _ | refine ext_alloc ?_ _ | refine ext_later ?_ _ | refine ext_drew ?_ | refine ext_drewN ?_ _))⟩

def ownUp (l : List Cl) (K k : Nat) : List Cl := (l.take k).filter fun c => c.n == (K : Int)
theorem ownUp_hit (l : List Cl) (K k : Nat) (c : Cl) (hk : l[k]? = some c) (h : (c.n == (K : Int)) = true) : ownUp l K (k + 1) = ownUp l K k ++ [c] := by
  unfold ownUp; rw [List.take_add_one, hk]; simp [h]
theorem ownUp_miss (l : List Cl) (K k : Nat) (c : Cl) (hk : l[k]? = some c) (h : (c.n == (K : Int)) = false) : ownUp l K (k + 1) = ownUp l K k := by
  unfold ownUp; rw [List.take_add_one, hk]; simp [h]
theorem ownUp_len (l : List Cl) (K k : Nat) : (ownUp l K k).length ≤ k := by
  have h1 := List.length_filter_le (fun c : Cl => c.n == (K : Int)) (l.take k)
  have h2 := List.length_take_le k l
  unfold ownUp; omega

set_option maxHeartbeats 2000000 in
set_option maxRecDepth 100000 in
theorem one_short (v : Value) (l : List Cl) (n : Int) (w : World) (hl : ListAt w v l) (hs : l.length ≤ 80) : Gives Try.prog 6 #[v, .int .i64 n] w (.bool true) := by
  unfold Gives
  have H8 := Lib.hid awake_any
  have HL := Lib.hid hl
  obtain ⟨i0, hi, hz0, hz1, hz2⟩ := info_parts infoClaim
  obtain ⟨p, cap, rfl, hcell⟩ : ∃ p cap, v = .slice p l.length cap ∧ (l = [] ∨ ∃ b o, p = some ⟨b, o, none⟩ ∧ b < w.heap.size ∧ ∀ k c, l[k]? = some c → w.cell? ⟨b, o + k * 3, none⟩ = some (.int .i64 c.n) ∧ w.cell? ⟨b, o + k * 3 + 1, none⟩ = some (.int .i64 c.i) ∧ w.cell? ⟨b, o + k * 3 + 2, none⟩ = some (.int .i64 c.h)) := by
    rcases hl with ⟨rfl, p, cap, rfl⟩ | ⟨b, o, cap, rfl, hlt, hc⟩
    · exact ⟨_, _, rfl, .inl rfl⟩
    · exact ⟨_, _, rfl, .inr ⟨b, o, rfl, hlt, hc⟩⟩
  have HC := Lib.hid hcell
  clear hl hcell
  obtain ⟨K, hK, hmod⟩ := mod_eight n
  go_enter Try.func6, Try.ntmps6
  go_wp2_with fail
  rw [hmod]
  clear hmod
  go_loopw [5, 20] (fun v i wr => ∃ k : Nat, k ≤ l.length ∧ i = .int .i64 k ∧ wr.ownsRow w.heap.size 23 3 v (ownUp l K k).length (cellsOf (ownUp l K k)) ∧ Below w.heap.size w wr) (fun _ i _ => l.length - (intOf i).toNat)
  case atStart => exact ⟨0, by omega, rfl, World.ownsRow_nil _ _ _ _, Below.refl _ _⟩
  case round =>
    obtain ⟨k, hk, rfl, hrow, hB⟩ := hrel
    have hsz := hB.size
    by_cases hkl : k < l.length
    · obtain ⟨⟨m, i, s⟩, hkc⟩ : ∃ c, l[k]? = some c := ⟨_, List.getElem?_eq_getElem hkl⟩
      rcases HC.out with h0 | ⟨b, o, rfl, hlt, hc⟩
      · rw [h0] at hkl; simp at hkl
      obtain ⟨h0, h1, h2⟩ := hc k _ hkc
      have hc0 : wr.cell? ⟨b, o + k * 3, none⟩ = some (.int .i64 m) := (hB.cell (p := ⟨b, _, none⟩) hlt).trans h0
      have hc1 : wr.cell? ⟨b, o + k * 3 + 1, none⟩ = some (.int .i64 i) := (hB.cell (p := ⟨b, _, none⟩) hlt).trans h1
      have hc2 : wr.cell? ⟨b, o + k * 3 + 2, none⟩ = some (.int .i64 s) := (hB.cell (p := ⟨b, _, none⟩) hlt).trans h2
      clear h0 h1 h2 hc
      have hlen := ownUp_len l K k
      by_cases hn : ((m : Int) == (K : Int)) = true
      · have HS := Lib.hid (ownUp_hit l K k _ hkc hn)
        have hcn := cell_three_new (wr.alloc (.cells #[.int .i64 m, .int .i64 i, .int .i64 s] 23)) (.int .i64 m) (.int .i64 i) (.int .i64 s) 23
        rw [World.size_alloc] at hcn
        have HB := Lib.hid hB
        have HN := Lib.hid hcn
        clear hB hcn hkc
        go_wp2_with (at_builtin; refine wpList_append_own _ rfl _ _ 28 rfl w.heap.size 23 i0 (.agg #[.int .i64 0, .int .i64 0, .int .i64 0]) 3 24 Try.underlying28 hi hz0 hz1 hz2 rfl (by decide) _ _ _ rfl ((hrow.alloc _).alloc _) ⟨wr.heap.size + 1, 0, none⟩ 1 1 [.int .i64 m, .int .i64 i, .int .i64 s] rfl rfl HN.out (by simp [Value.oneCell']) (by unfold maxLen; omega) (by omega) (by simp; omega) ?_; intro v' w1 hown' hgrow _; have HO := Lib.hid hown'; have HG := Lib.hid hgrow; clear hown' hgrow)
        go_roundw
        case rel =>
          refine ⟨k + 1, by omega, by go_num, ?_, own_below ((hrow.alloc _).alloc _) ((HB.out.alloc hsz _).alloc (by simp; omega) _) HG.out (by simp; omega) (Nat.le_refl _)⟩
          rw [HS.out, List.length_append, cellsOf_snoc]
          exact HO.out
        case measure => simp [intOf]; omega
      · have hn' : ((m : Int) == (K : Int)) = false := by simpa using hn
        have HS := Lib.hid (ownUp_miss l K k _ hkc hn')
        have HB := Lib.hid hB
        clear hB hn hkc
        go_wp2_with fail
        go_roundw
        case rel => exact ⟨k + 1, by omega, by go_num, by rw [HS.out]; exact hrow.alloc _, HB.out.alloc hsz _⟩
        case measure => simp [intOf]; omega
    · obtain rfl : k = l.length := by omega
      have hown : ownUp l K l.length = l.filter fun c => c.n == (K : Int) := by unfold ownUp; rw [List.take_length]
      have hlen := ownUp_len l K l.length
      rw [hown] at hrow hlen
      have HO := Lib.hid (listAt_of_own hrow)
      have HL2 := Lib.hid (HL.out.below hB)
      have HB := Lib.hid hB
      clear hrow hB hown
      go_wp2_with fail
      refine (heard_any _ l wr HL2.out (by omega)).mono ?_
      rintro e w2 ⟨rfl, hv2, hB2⟩
      have HV2 := Lib.hid hv2
      have HB2 := Lib.hid hB2
      clear hv2 hB2
      go_wp2_with fail
      refine (heard_any _ (l.filter fun c => c.n == (K : Int)) w2 (HO.out.below HB2.out) (by omega)).mono ?_
      rintro e w3 ⟨rfl, hv3, hB3⟩
      have HV3 := Lib.hid hv3
      have HV2' := Lib.hid (HV2.out.later hB3)
      have HB3 := Lib.hid ((HB.out.trans (HB2.out.mono hsz)).trans (hB3.mono (Nat.le_trans hsz HB2.out.size)))
      have hfull : heardL l K = heardL (l.filter fun c => c.n == (K : Int)) K := by
        unfold heardL
        rw [List.take_of_length_le (by omega), List.take_of_length_le (by omega)]
        exact own_same l K _ _ rfl
      have hone : (saidV (heardL (l.filter fun c => c.n == (K : Int)))).length ≤ 1 := by
        refine said_one _ K fun j hj => ?_
        unfold heardL
        rw [List.take_of_length_le (by omega)]
        exact own_others l K j hj _
      have HA : Hid (∀ W, ViewAt W wr.heap.size (heardL l) → Gives Try.prog 9 #[.pointer (some ⟨wr.heap.size, 0, none⟩), .int .i64 K] W (.agg #[.int .i64 K, .int .i64 (heardL l K).i, .int .i64 (heardL l K).h])) := Lib.hid (fun W h => (of_any _ _ K W h).cast (by rw [ofV_in _ K hK]; rfl))
      have HBo : Hid (∀ W, ViewAt W w2.heap.size (heardL (l.filter fun c => c.n == (K : Int))) → Gives Try.prog 9 #[.pointer (some ⟨w2.heap.size, 0, none⟩), .int .i64 K] W (.agg #[.int .i64 K, .int .i64 (heardL l K).i, .int .i64 (heardL l K).h])) := Lib.hid (fun W h => (of_any _ _ K W h).cast (by rw [ofV_in _ K hK, ← hfull]; rfl))
      have HE : Hid (∀ b W, ViewAt W b emptyV → Gives Try.prog 9 #[.pointer (some ⟨b, 0, none⟩), .int .i64 K] W (.agg #[.int .i64 K, .int .i64 0, .int .i64 0])) := Lib.hid (fun b W h => (of_any _ _ K W h).cast (by rw [ofV_in _ K hK]; rfl))
      obtain ⟨X, hX⟩ : ∃ X, (heardL l K).i = X := ⟨_, rfl⟩
      obtain ⟨Y, hY⟩ : ∃ Y, (heardL l K).h = Y := ⟨_, rfl⟩
      rw [hX, hY] at HA HBo
      have HAL := Lib.hid (all_len w2.heap.size (heardL (l.filter fun c => c.n == (K : Int))))
      obtain ⟨q, hq⟩ : ∃ q, (saidV (heardL (l.filter fun c => c.n == (K : Int)))).length = q := ⟨_, rfl⟩
      rw [hq] at HAL hone
      clear hv3 hB3 hfull hX hY hq
      go_wp2_with fail
      refine Gives.mono' (HA.out _ HV2'.out) ?_
      intro x1
      go_wp2_with fail
      refine Gives.on (HBo.out _ (HV3.out.later x1.below)) ?_
      intro x2
      go_wp2_with fail
      refine any_on (HAL.out _ (HV3.out.later x2.below)) ?_
      intro p5 cap5 x3
      go_wp2_with fail
      refine (new_any _).mono ?_
      rintro e w4 ⟨rfl, rfl⟩
      go_wp2_with fail
      refine Gives.mono' (HE.out _ _ (heap_alloc_new _ _)) ?_
      intro x4
      go_wp2_with fail
      refine Gives.on (H8.out _) ?_
      intro x5
      go_wp2_with fail
      go_ret
      exact ⟨rfl, Later.ex (by repeat (first | exact HB3.out | refine ext_later ?_ _ | refine ext_alloc ?_ _ | refine ext_drew ?_ | refine ext_drewN ?_ _))⟩

theorem one_any (v : Value) (l : List Cl) (n : Int) (w : World) (hl : ListAt w v l) (hm : l.length * 24 ≤ 140737488351232) (_ : (Lit.int .i64 n).wf = true) : Gives Try.prog 6 #[v, .int .i64 n] w (.bool true) := by
  by_cases h : 80 < l.length
  · exact one_long v l n w hl (by unfold maxLen; omega) h
  · exact one_short v l n w hl (by omega)
end Go.Proofs.Ytbddjhkoikcgjaa
