/- The landed probe: nodesBut, slices.Index, slices.Contains, whom Next strikes out. -/
import Derived.Test.YtfhfhneclplklaaPro
import Derived.Test.YtfhfhneclplklaaRefPeers
namespace Go.Proofs.Ytfhfhneclplklaa
open Go Go.RowKit

set_option maxHeartbeats 4000000 in
set_option maxRecDepth 100000 in
theorem nodesBut_any (v : Value) (l : List Int) (self : Int) (w : World) (hs : IntsAt w v l) (hl : l.length * 8 ≤ 140737488351232) : Calls Try.prog 23 #[.int .i64 self, v] w (PeersEnd l self w) := by
  obtain ⟨p, cap, rfl, hp⟩ := hs.form
  have HP := Lib.hid hp
  have HT0 := Lib.hid (BTab.start w)
  clear hs hp
  go_enter Try.func23, Try.ntmps23
  go_upto_region 2 with fail
  obtain ⟨tb, htb⟩ : ∃ b, w.heap.size = b := ⟨_, rfl⟩
  obtain ⟨w1, hw1⟩ : ∃ W, w.alloc (.cells #[.bool false, .bool false, .bool false, .bool false, .bool false, .bool false, .bool false, .bool false] 56) = W := ⟨_, rfl⟩
  have HT1 : Hid (BTab w tb (fun _ => false) w1) := Lib.hid (by rw [← htb, ← hw1]; exact HT0.out)
  rw [htb, hw1]
  clear htb hw1 HT0
  go_wp2_with fail
  go_loopw [7, 13] (fun _ v13 wr => ∃ k : Nat, v13 = .int .i64 k ∧ k ≤ l.length ∧ Hid (BTab w tb (isPeer (l.take k) self) wr)) (fun _ v13 _ => l.length - (intOf v13).toNat)
  case atStart => exact ⟨0, rfl, by omega, Lib.hid (HT1.out.cast fun j hj => by simp [isPeer])⟩
  case round =>
    clear HT1
    obtain ⟨k, rfl, hk, HB⟩ := hrel
    by_cases hkl : k < l.length
    · obtain ⟨x, hkc⟩ : ∃ c, l[k]? = some c := ⟨_, List.getElem?_eq_getElem hkl⟩
      rcases HP.out with h0 | ⟨b, o, rfl, hlt, hc⟩
      · rw [h0] at hkl; simp at hkl
      have hc0 : wr.cell? ⟨b, o + k, none⟩ = some (.int .i64 x) := (HB.out.below.cell (p := ⟨b, _, none⟩) hlt).trans (hc k x hkc)
      have HUp := Lib.hid (fun j => isPeer_up (self := self) hkc j)
      have hkd : decide ((k : Int) < (l.length : Int)) = true := by simp; omega
      clear hc hkc
      by_cases hn : 0 ≤ x ∧ x < 8 ∧ x ≠ self
      · obtain ⟨m, rfl⟩ : ∃ m : Nat, x = m := ⟨x.toNat, by omega⟩
        have hm8 : m < 8 := by omega
        have g1 : (((m : Int)) != self) = true := by simpa using hn.2.2
        have g2 : decide ((0 : Int) ≤ (m : Int)) = true := by simp
        have g3 : decide ((m : Int) < 8) = true := by simp; omega
        have HS : Hid (∀ j, j < 8 → (if j = m then true else isPeer (l.take k) self j) = isPeer (l.take (k + 1)) self j) := Lib.hid fun j hj => by
          rw [HUp.out j]
          by_cases e : j = m
          · subst e
            rw [if_pos rfl, if_pos rfl]
            have e2 : ((j : Int) == self) = false := by simpa using g1
            rw [e2]
            simp
          · rw [if_neg e, if_neg (by omega)]
        have hlt := HB.out.lt
        have hfz := HB.out.fz m
        have hold := HB.out.cell m hm8
        clear hn
        go_wp2_with fail
        go_roundw
        case rel => exact ⟨k + 1, by go_num, by omega, Lib.hid ((HB.out.set m hm8 true).cast HS.out)⟩
        case measure => simp [intOf]; omega
      · have HS : Hid (∀ j, j < 8 → isPeer (l.take k) self j = isPeer (l.take (k + 1)) self j) := Lib.hid fun j hj => by
          rw [HUp.out j]
          by_cases e : x = j
          · rw [if_pos e]
            have e2 : ((j : Int) == self) = true := by
              rw [beq_iff_eq]
              refine Classical.byContradiction fun h => hn ⟨by omega, by omega, by rw [e]; exact h⟩
            rw [e2]
            simp
          · rw [if_neg e]
        rcases (by omega : ¬ 0 ≤ x ∨ (0 ≤ x ∧ ¬ x < 8) ∨ (0 ≤ x ∧ x < 8 ∧ x = self)) with h1 | ⟨h1, h2⟩ | ⟨h1, h2, h3⟩
        · have g2 : decide ((0 : Int) ≤ x) = false := by simpa using h1
          clear hn h1
          go_wp2_with fail
          go_roundw
          case rel => exact ⟨k + 1, by go_num, by omega, Lib.hid (HB.out.cast HS.out)⟩
          case measure => simp [intOf]; omega
        · have g2 : decide ((0 : Int) ≤ x) = true := by simpa using h1
          have g3 : decide (x < 8) = false := by simpa using h2
          clear hn h1 h2
          go_wp2_with fail
          go_roundw
          case rel => exact ⟨k + 1, by go_num, by omega, Lib.hid (HB.out.cast HS.out)⟩
          case measure => simp [intOf]; omega
        · have g2 : decide ((0 : Int) ≤ x) = true := by simpa using h1
          have g3 : decide (x < 8) = true := by simpa using h2
          have g1 : (x != self) = false := by simpa using h3
          clear hn h1 h2 h3
          go_wp2_with fail
          go_roundw
          case rel => exact ⟨k + 1, by go_num, by omega, Lib.hid (HB.out.cast HS.out)⟩
          case measure => simp [intOf]; omega
    · obtain rfl : k = l.length := by omega
      have HB2 : Hid (BTab w tb (isPeer l self) wr) := Lib.hid (by have := HB.out; rw [List.take_length] at this; exact this)
      have HObj := Lib.hid HB2.out.obj
      have hlt := HB2.out.lt
      clear HB HP hkl hk
      obtain ⟨F, hF⟩ : ∃ F, isPeer l self = F := ⟨_, rfl⟩
      have HF := Lib.hid hF
      rw [hF] at HObj HB2
      clear hF
      go_wp2_with (refine wpList_load_row rfl _ _ rfl tb rfl _ _ _ _ HObj.out Try.underlying56 (by kernel_rfl) (by kernel_rfl) ?_)
      obtain ⟨tab, htab⟩ : ∃ t, tabB F = t := ⟨_, rfl⟩
      have HIx : Hid (∀ (j : Nat) W, j < 8 → (Instr.index 56 (.agg tab) (.int .i64 j)).run Try.prog W = .ok (.bool (F j)) W) := Lib.hid fun j W hj => by rw [← htab]; exact index_tabB _ j hj W
      rw [htab]
      clear htab HObj
      have HB3 := Lib.hid HB2.out.below
      obtain ⟨w2, hw2⟩ : ∃ W, W = wr := ⟨_, rfl⟩
      subst hw2
      clear HB2 hlt
      go_loopw [8, 9, 10, 32] (fun v8 _ _ v28 wz => ∃ k : Nat, v28 = .int .i64 k ∧ k ≤ 8 ∧ MadeI w wz v8 (peersF F k)) (fun _ _ _ v28 _ => 8 - (intOf v28).toNat)
      case atStart => exact ⟨0, rfl, by omega, madeI_nil HB3.out⟩
      case round =>
        obtain ⟨k, rfl, hk, hmade⟩ := hrel
        have hlen := peersF_len F k
        obtain ⟨pz, cz, rfl⟩ := ownsRow_form hmade.1
        obtain ⟨vz, hvz⟩ : ∃ v, Value.slice pz (peersF F k).length cz = v := ⟨_, rfl⟩
        have HVz := Lib.hid hvz
        have HMz := Lib.hid hmade
        rw [hvz] at HMz ⊢
        clear hvz hmade
        by_cases hk8 : k < 8
        · have hkd : decide ((k : Int) < 8) = true := by simp; omega
          have hix := fun W => HIx.out k W hk8
          cases hfk : F k with
          | true =>
            rw [hfk] at hix
            have HSrc : Hid (SrcI (wr.alloc (.cells #[.int .i64 k] 3)) (.slice (some ⟨wr.heap.size, 0, none⟩) 1 1) [(k : Int)]) := Lib.hid (srcI_one (heap_alloc_new wr _))
            have HMa := Lib.hid (HMz.out.later ⟨wr.alloc (.cells #[.int .i64 k] 3), ext_alloc (ext_refl _) _⟩)
            have HUp := Lib.hid (peersF_hit F k hfk)
            dsimp only at HMa
            go_wp2_with (at_builtin; refine wpListI_append (xs := peersF F k) (l := [(k : Int)]) rfl _ _ rfl rfl rfl HMa.out HSrc.out (by simp; omega) ?_; intro v' w5 hm; have HM5 := Lib.hid hm; clear hm)
            go_roundw
            case rel => exact ⟨k + 1, by go_num, by omega, by rw [HUp.out]; exact HM5.out⟩
            case measure => simp [intOf]; omega
          | false =>
            rw [hfk] at hix
            have HUp := Lib.hid (peersF_miss F k hfk)
            go_wp2_with fail
            go_roundw
            case rel => exact ⟨k + 1, by go_num, by omega, by rw [HUp.out]; exact HMz.out⟩
            case measure => simp [intOf]; omega
        · obtain rfl : k = 8 := by omega
          go_wp2_with fail
          go_ret
          exact ⟨_, rfl, by rw [peersOf, HF.out]; exact HMz.out⟩

/-- Where n lies. -/
def indexI (l : List Int) (n : Int) : Int := match l.findIdx? (· == n) with | some k => k | none => -1
theorem indexI_hit {l : List Int} {k : Nat} {n : Int} (hk : l[k]? = some n) (hn : (l.take k).contains n = false) : indexI l n = k := by
  have hkl := (List.getElem?_eq_some_iff.1 hk)
  obtain ⟨hlt, he⟩ := hkl
  have : l.findIdx? (· == n) = some k := by
    rw [List.findIdx?_eq_some_iff_getElem]
    refine ⟨hlt, by simpa using he, fun j hj => ?_⟩
    simp only [beq_iff_eq]
    intro e
    have hm : n ∈ l.take k := by
      rw [List.mem_iff_getElem]
      exact ⟨j, by rw [List.length_take]; omega, by rw [List.getElem_take]; exact e⟩
    rw [List.contains_eq_mem] at hn
    simp [hm] at hn
  simp [indexI, this]
theorem indexI_miss {l : List Int} {n : Int} (hn : l.contains n = false) : indexI l n = -1 := by
  have : l.findIdx? (· == n) = none := by
    rw [List.findIdx?_eq_none_iff]
    intro x hx
    simp only [beq_eq_false_iff_ne]
    rintro rfl
    rw [List.contains_eq_mem] at hn
    simp [hx] at hn
  simp [indexI, this]
theorem indexI_has (l : List Int) (n : Int) : decide (0 ≤ indexI l n) = l.contains n := by
  cases h : l.contains n with
  | false => rw [indexI_miss h]; rfl
  | true =>
    unfold indexI
    cases hf : l.findIdx? (· == n) with
    | some k => simp
    | none =>
      rw [List.findIdx?_eq_none_iff] at hf
      rw [List.contains_eq_mem] at h
      have := hf n (by simpa using h)
      simp at this

set_option maxHeartbeats 1000000 in
set_option maxRecDepth 100000 in
theorem indexI_any (v : Value) (l : List Int) (n : Int) (w : World) (hv : IntsAt w v l) (hl : l.length ≤ 1000) : Gives Try.prog 29 #[v, .int .i64 n] w (.int .i64 (indexI l n)) := by
  unfold Gives
  obtain ⟨p, cap, rfl, hp⟩ := hv.form
  have HP := Lib.hid hp
  clear hv hp
  go_enter Try.func29, Try.ntmps29
  go_wp2_with fail
  go_loopw [5, 8] (fun _ i wr => ∃ k : Nat, k ≤ l.length ∧ i = .int .i64 k ∧ Hid ((l.take k).contains n = false) ∧ ∃ x : Later w, wr = x.w) (fun _ i _ => l.length - (intOf i).toNat)
  case atStart => exact ⟨0, by omega, rfl, Lib.hid (by simp), ⟨w, Below.refl _ _⟩, rfl⟩
  case round =>
    obtain ⟨k, hk, rfl, HN, x, rfl⟩ := hrel
    by_cases hkl : k < l.length
    · obtain ⟨c, hkc⟩ : ∃ c, l[k]? = some c := ⟨_, List.getElem?_eq_getElem hkl⟩
      rcases HP.out with h0 | ⟨b, o, rfl, hlt, hc⟩
      · rw [h0] at hkl; simp at hkl
      have a0 := hc k _ hkc
      have HK := Lib.hid hkc
      clear hc hkc
      cases hcn : ((n : Int) == c) with
      | true =>
        have HV : Hid (indexI l n = k) := Lib.hid (indexI_hit (by rw [HK.out]; congr 1; exact (eq_of_beq hcn).symm) HN.out)
        go_wp2_with fail
        go_ret
        exact ⟨by rw [HV.out]; rfl, Later.ex (by repeat (first | exact ext_refl _ | refine ext_later ?_ _ | refine ext_alloc ?_ _ | refine ext_drew ?_ | refine ext_drewN ?_ _))⟩
      | false =>
        have hcn' : (c == n) = false := by rw [beq_eq_false_iff_ne] at hcn ⊢; exact fun e => hcn e.symm
        go_wp2_with fail
        go_roundw
        case rel => exact ⟨k + 1, by omega, by go_num, Lib.hid (by rw [contains_take HK.out, HN.out, hcn']; rfl), x, rfl⟩
        case measure => simp [intOf]; omega
    · obtain rfl : k = l.length := by omega
      have HV : Hid (indexI l n = -1) := Lib.hid (indexI_miss (by have := HN.out; rw [List.take_length] at this; exact this))
      go_wp2_with fail
      go_ret
      exact ⟨by rw [HV.out]; rfl, Later.ex x.below⟩

set_option maxHeartbeats 1000000 in
set_option maxRecDepth 100000 in
theorem containsI_any (v : Value) (l : List Int) (n : Int) (w : World) (hv : IntsAt w v l) (hl : l.length ≤ 1000) : Gives Try.prog 26 #[v, .int .i64 n] w (.bool (l.contains n)) := by
  unfold Gives
  have HI := Lib.hid (indexI_any v l n w hv hl)
  have HV := Lib.hid (indexI_has l n)
  obtain ⟨p, cap, rfl, hp⟩ := hv.form
  clear hv hp
  go_enter Try.func26, Try.ntmps26
  go_wp2_with fail
  refine Gives.mono' HI.out ?_
  intro x
  go_wp2_with fail
  go_ret
  exact ⟨by rw [← HV.out]; rfl, Later.ex x.below⟩

/-- The closure that Next hands on: whether a node is none of those that lie behind block b. -/
theorem gone_any (b : Nat) (v : Value) (l : List Int) (n : Int) (w : World) (hc : w.cell? ⟨b, 0, none⟩ = some v) (hv : IntsAt w v l) (hl : l.length ≤ 1000) : Gives Try.prog 25 #[.int .i64 n, .pointer (some ⟨b, 0, none⟩)] w (.bool !(l.contains n)) := by
  unfold Gives
  have HI := Lib.hid (containsI_any v l n w hv hl)
  obtain ⟨B, hB⟩ : ∃ B, l.contains n = B := ⟨_, rfl⟩
  rw [hB] at HI ⊢
  clear hB
  obtain ⟨p, cap, rfl, hp⟩ := hv.form
  clear hv hp
  go_enter Try.func25, Try.ntmps25
  go_wp2_with fail
  refine Gives.mono' HI.out ?_
  intro x
  go_wp2_with fail
  go_ret
  exact ⟨rfl, Later.ex x.below⟩
end Go.Proofs.Ytfhfhneclplklaa
