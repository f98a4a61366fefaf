/- ProbeSome's walk. -/
import Derived.Test.YtfhfhneclplklaaProSt
import Derived.Test.YtfhfhneclplklaaOpenInts
import Derived.Test.YtfhfhneclplklaaITab
import Derived.Test.YtfhfhneclplklaaRoundMath
namespace Go.Proofs.Ytfhfhneclplklaa
open Go Go.RowKit

/-- The first k of a shuffled row without repeats: none twice, all of the row, and so many of the row are among them. -/
theorem some_math {M : List Int} (hn : M.Nodup) (h8 : M.length ≤ 8) (k draw : Int) :
    (some' M k draw).Nodup ∧ (∀ x ∈ some' M k draw, x ∈ M) ∧ (M.filter fun x => (some' M k draw).contains x).length = (some' M k draw).length ∧ ((some' M k draw).length : Int) = max 0 (min k M.length) := by
  have hp := shuf_mem (P := M) (by omega) draw
  unfold some'
  obtain ⟨S, hS⟩ : ∃ S, shuf M draw = S := ⟨_, rfl⟩
  rw [hS] at hp ⊢
  have hSn : S.Nodup := hp.symm.nodup hn
  have hl := hp.length_eq
  refine ⟨hSn.sublist (List.take_sublist _ _), fun x hx => hp.subset (List.mem_of_mem_take hx), ?_, ?_⟩
  · have h1 := (hp.filter fun x => (S.take k.toNat).contains x).length_eq
    rw [← h1]
    have h2 : S.filter (fun x => (S.take k.toNat).contains x) = S.take k.toNat := by
      conv => lhs; arg 2; rw [← List.take_append_drop k.toNat S]
      rw [List.filter_append]
      have e1 : (S.take k.toNat).filter (fun x => (S.take k.toNat).contains x) = S.take k.toNat := by
        rw [List.filter_eq_self]
        intro x hx
        rw [List.contains_eq_mem]
        simpa using hx
      have e2 : (S.drop k.toNat).filter (fun x => (S.take k.toNat).contains x) = [] := by
        rw [List.filter_eq_nil_iff]
        intro x hx
        rw [List.contains_eq_mem]
        simp only [decide_eq_true_eq]
        intro hx'
        rw [← List.take_append_drop k.toNat S, List.nodup_append] at hSn
        exact hSn.2.2 x hx' x hx rfl
      rw [e1, e2, List.append_nil]
    rw [h2]
  · rw [List.length_take, hl]
    omega

set_option maxHeartbeats 4000000 in
set_option maxRecDepth 100000 in
theorem someLaw_any (v : Value) (l : List Int) (k draw : Int) (w : World) (hs : SrcI w v l) (hm : l.length * 8 ≤ 140737488351232) (_hk : (Lit.int .i64 k).wf = true) (h0 : 0 ≤ draw) (h1 : draw < 18446744073709551616) :
    Gives Try.prog 8 #[v, .int .i64 k, .int .u64 draw] w (.bool true) := by
  unfold Gives
  have HPe := Lib.hid (refPeers_any v l (-1) w hs.1 hm)
  have HAw := Lib.hid awake_any
  obtain ⟨p, cap, rfl, _⟩ := hs.1.form
  have hn := peersOf_nodup l (-1)
  have h8 := peersOf_len l (-1)
  have hin := fun x => (peersOf_mem (l := l) (self := -1) (x := x))
  unfold PeersEnd at HPe
  obtain ⟨M, hM⟩ : ∃ M, peersOf l (-1) = M := ⟨_, rfl⟩
  rw [hM] at HPe hn h8
  simp only [hM] at hin
  obtain ⟨m1, m2, m3, m4⟩ := some_math hn h8 k draw
  obtain ⟨S, hS⟩ : ∃ S, some' M k draw = S := ⟨_, rfl⟩
  rw [hS] at m1 m2 m3 m4
  have HS := Lib.hid hS
  have HSr := Lib.hid (fun x (hx : x ∈ S) => ((hin x).1 (m2 x hx)).1)
  have HMr := Lib.hid (fun x (hx : x ∈ M) => ((hin x).1 hx).1)
  have HSn := Lib.hid m1
  have HSc := Lib.hid m3
  have HSl := Lib.hid m4
  have hS8 : S.length ≤ 8 := by omega
  clear hs hn hin hM m1 m2 m3 m4 hS
  go_enter Try.func8, Try.ntmps8
  go_wp2_with fail
  refine HPe.out.mono ?_
  rintro e w1 ⟨um, rfl, hmm⟩
  obtain ⟨pm, cm, rfl⟩ := ownsRow_form hmm.1
  have HM := Lib.hid hmm.src
  have HB1 := Lib.hid hmm.2
  clear hmm HPe
  by_cases hl : 60 < l.length
  · go_wp2_with fail
    refine Gives.mono' (HAw.out _) ?_
    intro z
    go_wp2_with fail
    go_ret
    exact ⟨rfl, Later.ex (below_later HB1.out HB1.out.size z)⟩
  · have HSo := Lib.hid (proSome_any (.slice pm M.length cm) M k draw w1 HM.out (by omega) h0 h1)
    unfold SomeEnd at HSo
    rw [HS.out] at HSo
    go_wp2_with fail
    refine HSo.out.mono ?_
    rintro e w2 ⟨us, rfl, hms⟩
    obtain ⟨ps, cs, rfl⟩ := ownsRow_form hms.1
    have HSs := Lib.hid hms.list
    have HB2 := Lib.hid (HB1.out.trans (hms.2.mono HB1.out.size))
    have HM2 := Lib.hid (HM.out.1.below hms.2)
    clear hms HSo HM HB1
    go_upto_region 6 with fail
    obtain ⟨tb, htb⟩ : ∃ b, w2.heap.size = b := ⟨_, rfl⟩
    have HT0 := Lib.hid (ts_start w2)
    obtain ⟨w3, hw3⟩ : ∃ W, w2.alloc (.cells #[.int .i64 0, .int .i64 0, .int .i64 0, .int .i64 0, .int .i64 0, .int .i64 0, .int .i64 0, .int .i64 0] 41) = W := ⟨_, rfl⟩
    rw [hw3, htb] at HT0
    rw [htb, hw3]
    clear hw3 htb
    go_wp2_with fail
    go_loopw [27] (fun v27 wr => ∃ q : Nat, v27 = .int .i64 q ∧ q ≤ S.length ∧ Hid (TS w2 tb (fun j => if (S.take q).contains (j : Int) then 1 else 0) wr)) (fun v27 _ => S.length - (intOf v27).toNat)
    case atStart => exact ⟨0, rfl, by omega, Lib.hid (HT0.out.cast fun j hj => by simp)⟩
    case round =>
      clear HT0
      obtain ⟨q, rfl, hq, HT⟩ := hrel
      obtain ⟨F, hF⟩ : ∃ F : Nat → Int, (fun j => if (S.take q).contains ((j : Nat) : Int) then (1 : Int) else 0) = F := ⟨_, rfl⟩
      have HF := Lib.hid hF
      rw [hF] at HT
      clear hF
      by_cases hql : q < S.length
      · obtain ⟨c, hqc⟩ : ∃ c, S[q]? = some c := ⟨_, List.getElem?_eq_getElem hql⟩
        obtain ⟨ps', cs', hv, hrow⟩ := (HSs.out.below HT.out.below).form
        obtain ⟨rfl, -, rfl⟩ := Value.slice.inj hv
        rcases hrow with e0 | ⟨b, o, rfl, hlt, hc⟩
        · rw [e0] at hql; simp at hql
        have a0 := hc q c hqc
        have hcm : c ∈ S := List.mem_of_getElem? hqc
        obtain ⟨m, rfl⟩ : ∃ m : Nat, c = m := ⟨c.toNat, by have := HSr.out c hcm; omega⟩
        have hm8 : m < 8 := by have := HSr.out _ hcm; omega
        have hold : F m = 0 := by
          rw [← HF.out]
          have : (S.take q).contains (m : Int) = false := by
            rw [List.contains_eq_mem]
            simp only [decide_eq_false_iff_not]
            intro hx
            have hn := HSn.out
            have hd : (m : Int) ∈ S.drop q := by
              rw [List.mem_iff_getElem?]
              exact ⟨0, by rw [List.getElem?_drop]; exact hqc⟩
            rw [← List.take_append_drop q S, List.nodup_append] at hn
            exact hn.2.2 _ hx _ hd rfl
          simp only [this]
          rfl
        have HUp : Hid (∀ j, j < 8 → (if j = m then (1 : Int) else F j) = if (S.take (q + 1)).contains (j : Int) then 1 else 0) := Lib.hid fun j hj => by
          rw [contains_take hqc, ← HF.out]
          by_cases e : j = m
          · subst e
            rw [if_pos rfl]
            simp
          · rw [if_neg e]
            have : ((m : Int) == (j : Int)) = false := by rw [beq_eq_false_iff_ne]; omega
            rw [this, Bool.or_false]
        have t0 := HT.out.tab.cell m hm8
        rw [hold] at t0
        have t1 := HT.out.tab.fz m
        have t2 := HT.out.tab.lt
        have g1 : decide ((m : Int) < 0) = false := by simp
        have g2 : decide ((8 : Int) ≤ (m : Int)) = false := by simp; omega
        have hqd : decide ((q : Int) < (S.length : Int)) = true := by simp; omega
        clear hc hqc hv hcm hold
        go_wp2_with fail
        go_roundw
        case rel => exact ⟨q + 1, by go_num, by omega, Lib.hid ((HT.out.set m hm8 1).cast HUp.out)⟩
        case measure => simp [intOf]; omega
      · obtain rfl : q = S.length := by omega
        have HF2 : Hid (∀ j : Nat, F j = if S.contains (j : Int) then 1 else 0) := Lib.hid fun j => by rw [← HF.out]; simp only [List.take_length]
        clear HF
        go_wp2_with fail
        go_loopw [12, 48] (fun v12 v48 wz => ∃ i : Nat, v48 = .int .i64 i ∧ i ≤ M.length ∧ v12 = .int .i64 (((M.take i).filter fun x => S.contains x).length : Nat) ∧ Hid (TS w2 tb F wz)) (fun _ v48 _ => M.length - (intOf v48).toNat)
        case atStart => exact ⟨0, rfl, by omega, by simp, HT⟩
        case round =>
          clear HT
          obtain ⟨i, rfl, hi, rfl, HT⟩ := hrel
          obtain ⟨n, hn⟩ : ∃ n, ((M.take i).filter fun x => S.contains x).length = n := ⟨_, rfl⟩
          have hn8 : n ≤ 8 := by rw [← hn]; exact Nat.le_trans (List.length_filter_le _ _) (by rw [List.length_take]; omega)
          by_cases hil : i < M.length
          · obtain ⟨c, hic⟩ : ∃ c, M[i]? = some c := ⟨_, List.getElem?_eq_getElem hil⟩
            obtain ⟨pm', cm', hv, hrow⟩ := (HM2.out.below HT.out.below).form
            obtain ⟨rfl, -, rfl⟩ := Value.slice.inj hv
            rcases hrow with e0 | ⟨b, o, rfl, hlt, hc⟩
            · rw [e0] at hil; simp at hil
            have a0 := hc i c hic
            have hcm : c ∈ M := List.mem_of_getElem? hic
            obtain ⟨m, rfl⟩ : ∃ m : Nat, c = m := ⟨c.toNat, by have := HMr.out c hcm; omega⟩
            have hm8 : m < 8 := by have := HMr.out _ hcm; omega
            have t0 := HT.out.tab.cell m hm8
            have t2 := HT.out.tab.lt
            have hid : decide ((i : Int) < (M.length : Int)) = true := by simp; omega
            rw [HF2.out m] at t0
            cases hcn : S.contains (m : Int) with
            | true =>
              have hU := congrArg List.length (filter_hit hic hcn)
              rw [List.length_append, hn, List.length_singleton] at hU
              have HU := Lib.hid hU
              rw [hcn] at t0
              simp only [if_true] at t0
              rw [hn]
              clear hc hic hv hcm hU hcn hn
              go_wp2_with fail
              go_roundw
              case rel => exact ⟨i + 1, by go_num, by omega, by rw [HU.out]; go_num, HT⟩
              case measure => simp [intOf]; omega
            | false =>
              have hU := congrArg List.length (filter_miss hic hcn)
              rw [hn] at hU
              have HU := Lib.hid hU
              rw [hcn] at t0
              simp only [Bool.false_eq_true, if_false] at t0
              rw [hn]
              clear hc hic hv hcm hU hcn hn
              go_wp2_with fail
              go_roundw
              case rel => exact ⟨i + 1, by go_num, by omega, by rw [HU.out], HT⟩
              case measure => simp [intOf]; omega
          · obtain rfl : i = M.length := by omega
            have hz : n = S.length := by rw [← hn, List.take_length]; exact HSc.out
            rw [hn, hz]
            have hl2 := HSl.out
            have HB5 := Lib.hid (HB2.out.trans (HT.out.below.mono HB2.out.size))
            clear hn hz hn8
            rcases (by omega : (k < 0 ∧ S.length = 0) ∨ (0 ≤ k ∧ k ≤ (M.length : Int) ∧ k = (S.length : Int)) ∨ (0 ≤ k ∧ (M.length : Int) < k ∧ S.length = M.length)) with ⟨g, e⟩ | ⟨g, g', e⟩ | ⟨g, g', e⟩
            · rw [e]
              clear e hl2
              go_wp2_with fail
              all_goals
                refine Gives.mono' (HAw.out _) ?_
                intro z
                go_wp2_with fail
                go_ret
                exact ⟨rfl, Later.ex (below_later HB5.out HB5.out.size z)⟩
            · subst e
              clear hl2
              by_cases hl0 : S.length = 0
              · rw [hl0] at g' ⊢
                clear hl0
                go_wp2_with fail
                all_goals
                  refine Gives.mono' (HAw.out _) ?_
                  intro z
                  go_wp2_with fail
                  go_ret
                  exact ⟨rfl, Later.ex (below_later HB5.out HB5.out.size z)⟩
              · have hl1 : (0 : Int) < (S.length : Int) := by omega
                go_wp2_with fail
                all_goals
                  refine Gives.mono' (HAw.out _) ?_
                  intro z
                  go_wp2_with fail
                  go_ret
                  exact ⟨rfl, Later.ex (below_later HB5.out HB5.out.size z)⟩
            · rw [e]
              clear hl2
              by_cases hl0 : M.length = 0
              · rw [hl0] at g' ⊢
                clear hl0
                go_wp2_with fail
                all_goals
                  refine Gives.mono' (HAw.out _) ?_
                  intro z
                  go_wp2_with fail
                  go_ret
                  exact ⟨rfl, Later.ex (below_later HB5.out HB5.out.size z)⟩
              · have hl1 : (0 : Int) < (M.length : Int) := by omega
                go_wp2_with fail
                all_goals
                  refine Gives.mono' (HAw.out _) ?_
                  intro z
                  go_wp2_with fail
                  go_ret
                  exact ⟨rfl, Later.ex (below_later HB5.out HB5.out.size z)⟩
end Go.Proofs.Ytfhfhneclplklaa
