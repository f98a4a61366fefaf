/- The reference's Peers. -/
import Derived.Test.YtagpbmgeikjnjaaShufMath
import Derived.Laws.Rows
import Derived.StillTailTactics
namespace Go.Proofs.Ytagpbmgeikjnjaa
open Go Go.RowKit

def nodeI (n : Int) : Bool := decide (0 ≤ n ∧ n < 8)
set_option maxHeartbeats 400000 in
theorem nodeI_any (n : Int) (w : World) : Gives Try.prog 22 #[.int .i64 n] w (.bool (nodeI n)) := by
  unfold Gives
  by_cases q0 : 0 ≤ n <;> by_cases q1 : n < 8
  all_goals try (exfalso; omega)
  all_goals first | (have H : Hid (nodeI n = true) := Lib.hid (by simp [nodeI]; omega)) | (have H : Hid (nodeI n = false) := Lib.hid (by simp [nodeI]; omega))
  all_goals
    go_enter Try.func22, Try.ntmps22
    go_wp2
    all_goals go_ret
    all_goals exact ⟨by rw [H.out]; rfl, Later.ex (by repeat (first | exact ext_refl _ | refine ext_alloc ?_ _ | refine ext_later ?_ _ | refine ext_drew ?_ | refine ext_drewN ?_ _))⟩

theorem contains_take {l : List Int} {k : Nat} {n x : Int} (hk : l[k]? = some x) : (l.take (k + 1)).contains n = ((l.take k).contains n || (x == n)) := by
  rw [List.take_add_one, hk]
  rw [Bool.eq_iff_iff]
  simp only [List.contains_eq_mem, Option.toList_some, List.mem_append, List.mem_singleton, decide_eq_true_eq, Bool.or_eq_true, beq_iff_eq]
  constructor
  · rintro (h | h)
    · exact .inl h
    · exact .inr h.symm
  · rintro (h | h)
    · exact .inl h
    · exact .inr h.symm

def tabB (f : Nat → Bool) : Array Value := #[.bool (f 0), .bool (f 1), .bool (f 2), .bool (f 3), .bool (f 4), .bool (f 5), .bool (f 6), .bool (f 7)]
theorem tabB_at (f : Nat → Bool) (j : Nat) (hj : j < 8) : (tabB f)[j]? = some (.bool (f j)) := by
  rcases (by omega : j = 0 ∨ j = 1 ∨ j = 2 ∨ j = 3 ∨ j = 4 ∨ j = 5 ∨ j = 6 ∨ j = 7) with rfl | rfl | rfl | rfl | rfl | rfl | rfl | rfl <;> rfl
theorem tabB_set (f : Nat → Bool) (j : Nat) (hj : j < 8) (x : Bool) : (tabB f).setIfInBounds j (.bool x) = tabB (fun i => if i = j then x else f i) := by
  rcases (by omega : j = 0 ∨ j = 1 ∨ j = 2 ∨ j = 3 ∨ j = 4 ∨ j = 5 ∨ j = 6 ∨ j = 7) with rfl | rfl | rfl | rfl | rfl | rfl | rfl | rfl <;> rfl
theorem tabB_congr {f g : Nat → Bool} (e : ∀ j, j < 8 → f j = g j) : tabB f = tabB g := by
  unfold tabB
  rw [e 0 (by omega), e 1 (by omega), e 2 (by omega), e 3 (by omega), e 4 (by omega), e 5 (by omega), e 6 (by omega), e 7 (by omega)]
theorem index_tabB (f : Nat → Bool) (k : Nat) (hk : k < 8) (w : World) : (Instr.index 36 (.agg (tabB f)) (.int .i64 k)).run Try.prog w = .ok (.bool (f k)) w := by
  rcases (by omega : k = 0 ∨ k = 1 ∨ k = 2 ∨ k = 3 ∨ k = 4 ∨ k = 5 ∨ k = 6 ∨ k = 7) with rfl | rfl | rfl | rfl | rfl | rfl | rfl | rfl <;> kernel_rfl

structure BTab (w : World) (tb : Nat) (f : Nat → Bool) (W : World) : Prop where
  below : Below w.heap.size w W
  obj : W.heap[tb]? = some (.cells (tabB f) 36 (0, 0))
  ge : w.heap.size ≤ tb
section
variable {w W : World} {tb : Nat} {f : Nat → Bool}
theorem BTab.lt (h : BTab w tb f W) : tb < W.heap.size := (Array.getElem?_eq_some_iff.1 h.obj).1
theorem BTab.cell (h : BTab w tb f W) (j : Nat) (hj : j < 8) : W.cell? ⟨tb, j, none⟩ = some (.bool (f j)) := by
  have := tabB_at f j hj
  simp only [World.cell?, h.obj]
  exact this
theorem BTab.fz (h : BTab w tb f W) (j : Nat) : W.frozen? ⟨tb, j, none⟩ = false := by simp [World.frozen?, h.obj]
theorem BTab.later (h : BTab w tb f W) (x : Later W) : BTab w tb f x.w := ⟨below_later h.below h.below.size x, (x.below.block _ h.lt).trans h.obj, h.ge⟩
theorem BTab.set (h : BTab w tb f W) (j : Nat) (hj : j < 8) (x : Bool) : BTab w tb (fun i => if i = j then x else f i) (W.setCell ⟨tb, j, none⟩ (.bool x)) :=
  ⟨ext_setCell h.below _ _ h.ge, by rw [heap_setCell_same _ _ _ _ _ _ h.obj, tabB_set f j hj], h.ge⟩
theorem BTab.cast {g : Nat → Bool} (h : BTab w tb f W) (e : ∀ j, j < 8 → f j = g j) : BTab w tb g W := ⟨h.below, by rw [← tabB_congr e]; exact h.obj, h.ge⟩
theorem BTab.start (w : World) : BTab w w.heap.size (fun _ => false) (w.alloc (.cells #[.bool false, .bool false, .bool false, .bool false, .bool false, .bool false, .bool false, .bool false] 36)) := ⟨ext_alloc (ext_refl w) _, heap_alloc_new w _, Nat.le_refl _⟩
end

theorem isPeer_up {l : List Int} {k : Nat} {x self : Int} (hk : l[k]? = some x) (j : Nat) : isPeer (l.take (k + 1)) self j = if x = (j : Int) then (isPeer (l.take k) self j || !((j : Int) == self)) else isPeer (l.take k) self j := by
  unfold isPeer
  rw [contains_take hk]
  by_cases e : x = (j : Int)
  · rw [if_pos e]
    have : (x == (j : Int)) = true := by simpa using e
    rw [this]
    cases (List.take k l).contains (j : Int) <;> cases ((j : Int) == self) <;> rfl
  · rw [if_neg e]
    have : (x == (j : Int)) = false := by simpa using e
    rw [this]
    simp

def PeersEnd (l : List Int) (self : Int) (w : World) (e : Ending) (w' : World) : Prop := ∃ u, e = .returned u ∧ MadeI w w' u (peersOf l self)

set_option maxHeartbeats 4000000 in
set_option maxRecDepth 100000 in
theorem refPeers_any (v : Value) (l : List Int) (self : Int) (w : World) (hs : IntsAt w v l) (hl : l.length * 8 ≤ 140737488351232) : Calls Try.prog 14 #[v, .int .i64 self] w (PeersEnd l self w) := by
  obtain ⟨p, cap, rfl, hp⟩ := hs.form
  have HP := Lib.hid hp
  have HT0 := Lib.hid (BTab.start w)
  have HN := Lib.hid nodeI_any
  clear hs hp
  go_enter Try.func14, Try.ntmps14
  go_upto_region 2 with fail
  obtain ⟨tb, htb⟩ : ∃ b, w.heap.size = b := ⟨_, rfl⟩
  obtain ⟨w1, hw1⟩ : ∃ W, w.alloc (.cells #[.bool false, .bool false, .bool false, .bool false, .bool false, .bool false, .bool false, .bool false] 36) = W := ⟨_, rfl⟩
  have HT1 : Hid (BTab w tb (fun _ => false) w1) := Lib.hid (by rw [← htb, ← hw1]; exact HT0.out)
  rw [htb, hw1]
  clear htb hw1 HT0
  go_wp2_with fail
  go_loopw [13] (fun v13 wr => ∃ k : Nat, v13 = .int .i64 k ∧ k ≤ l.length ∧ Hid (BTab w tb (isPeer (l.take k) self) wr)) (fun v13 _ => l.length - (intOf v13).toNat)
  case atStart => exact ⟨0, rfl, by omega, Lib.hid (HT1.out.cast fun j hj => by simp [isPeer])⟩
  case round =>
    clear HT1
    obtain ⟨k, rfl, hk, HB⟩ := hrel
    by_cases hkl : k < l.length
    · obtain ⟨x, hkc⟩ : ∃ c, l[k]? = some c := ⟨_, List.getElem?_eq_getElem hkl⟩
      rcases HP.out with h0 | ⟨b, o, rfl, hlt, hc⟩
      · rw [h0] at hkl; simp at hkl
      have hc0 : wr.cell? ⟨b, o + k, none⟩ = some (.int .i64 x) := (HB.out.below.cell (p := ⟨b, _, none⟩) hlt).trans (hc k x hkc)
      have HUp := Lib.hid (fun j => isPeer_up (self := self) hkc j)
      have hkd : decide ((k : Int) < (l.length : Int)) = true := by simp; omega
      clear hc hkc
      cases hn : nodeI x with
      | false =>
        have HN0 : Hid (∀ W, Gives Try.prog 22 #[.int .i64 x] W (.bool false)) := Lib.hid fun W => (HN.out x W).cast (by rw [hn])
        have HS : Hid (∀ j, j < 8 → isPeer (l.take k) self j = isPeer (l.take (k + 1)) self j) := Lib.hid fun j hj => by
          rw [HUp.out j, if_neg]
          intro e
          simp only [nodeI, decide_eq_false_iff_not] at hn
          omega
        clear hn
        go_wp2_with fail
        refine Gives.mono' (HN0.out _) ?_
        intro x1
        go_wp2_with fail
        go_roundw
        case rel => exact ⟨k + 1, by go_num, by omega, Lib.hid ((HB.out.later x1).cast HS.out)⟩
        case measure => simp [intOf]; omega
      | true =>
        have HN0 : Hid (∀ W, Gives Try.prog 22 #[.int .i64 x] W (.bool true)) := Lib.hid fun W => (HN.out x W).cast (by rw [hn])
        simp only [nodeI, decide_eq_true_eq] at hn
        obtain ⟨m, rfl⟩ : ∃ m : Nat, x = m := ⟨x.toNat, by omega⟩
        have hm8 : m < 8 := by omega
        clear hn
        cases hself : (((m : Int)) != self) with
        | false =>
          have HS : Hid (∀ j, j < 8 → isPeer (l.take k) self j = isPeer (l.take (k + 1)) self j) := Lib.hid fun j hj => by
            rw [HUp.out j]
            split
            · rename_i e
              have : j = m := by omega
              subst this
              have e2 : ((j : Int) == self) = true := by simpa using hself
              rw [e2]
              simp
            · rfl
          go_wp2_with fail
          refine Gives.mono' (HN0.out _) ?_
          intro x1
          go_wp2_with fail
          go_roundw
          case rel => exact ⟨k + 1, by go_num, by omega, Lib.hid ((HB.out.later x1).cast HS.out)⟩
          case measure => simp [intOf]; omega
        | true =>
          have HS : Hid (∀ j, j < 8 → (if j = m then true else isPeer (l.take k) self j) = isPeer (l.take (k + 1)) self j) := Lib.hid fun j hj => by
            rw [HUp.out j]
            by_cases e : j = m
            · subst e
              have e2 : ((j : Int) == self) = false := by simpa using hself
              rw [e2, if_pos rfl, if_pos rfl]
              simp
            · rw [if_neg e, if_neg (by omega)]
          go_wp2_with fail
          refine Gives.mono' (HN0.out _) ?_
          intro x1
          have HB1 := Lib.hid (HB.out.later x1)
          have z0 := HB1.out.cell m hm8
          have z1 := HB1.out.fz m
          have z2 := HB1.out.lt
          go_wp2_with fail
          go_roundw
          case rel => exact ⟨k + 1, by go_num, by omega, Lib.hid ((HB1.out.set m hm8 true).cast HS.out)⟩
          case measure => simp [intOf]; omega
    · obtain rfl : k = l.length := by omega
      have HB2 : Hid (BTab w tb (isPeer l self) wr) := Lib.hid (by have := HB.out; rw [List.take_length] at this; exact this)
      have HObj := Lib.hid HB2.out.obj
      have hlt := HB2.out.lt
      clear HB HP hkl hk
      obtain ⟨F, hF⟩ : ∃ F, isPeer l self = F := ⟨_, rfl⟩
      have HF := Lib.hid hF
      rw [hF] at HObj HB2
      clear hF
      go_wp2_with (refine wpList_load_row rfl _ _ rfl tb rfl _ _ _ _ HObj.out Try.underlying36 (by kernel_rfl) (by kernel_rfl) ?_)
      obtain ⟨tab, htab⟩ : ∃ t, tabB F = t := ⟨_, rfl⟩
      have HIx : Hid (∀ (j : Nat) W, j < 8 → (Instr.index 36 (.agg tab) (.int .i64 j)).run Try.prog W = .ok (.bool (F j)) W) := Lib.hid fun j W hj => by rw [← htab]; exact index_tabB _ j hj W
      rw [htab]
      clear htab HObj
      have HB3 := Lib.hid HB2.out.below
      obtain ⟨w2, hw2⟩ : ∃ W, W = wr := ⟨_, rfl⟩
      subst hw2
      clear HB2 hlt
      go_loopw [8, 28] (fun v8 v28 wz => ∃ k : Nat, v28 = .int .i64 k ∧ k ≤ 8 ∧ MadeI w wz v8 (peersF F k)) (fun _ v28 _ => 8 - (intOf v28).toNat)
      case atStart => exact ⟨0, rfl, by omega, madeI_nil HB3.out⟩
      case round =>
        obtain ⟨k, rfl, hk, hmade⟩ := hrel
        have hlen := peersF_len F k
        obtain ⟨pz, cz, rfl⟩ := ownsRow_form hmade.1
        obtain ⟨vz, hvz⟩ : ∃ v, Value.slice pz (peersF F k).length cz = v := ⟨_, rfl⟩
        have HVz := Lib.hid hvz
        have HMz := Lib.hid hmade
        rw [hvz] at HMz ⊢
        clear hvz hmade
        by_cases hk8 : k < 8
        · have hkd : decide ((k : Int) < 8) = true := by simp; omega
          have hix := fun W => HIx.out k W hk8
          cases hfk : F k with
          | true =>
            rw [hfk] at hix
            have HSrc : Hid (SrcI (wr.alloc (.cells #[.int .i64 k] 3)) (.slice (some ⟨wr.heap.size, 0, none⟩) 1 1) [(k : Int)]) := Lib.hid (srcI_one (heap_alloc_new wr _))
            have HMa := Lib.hid (HMz.out.later ⟨wr.alloc (.cells #[.int .i64 k] 3), ext_alloc (ext_refl _) _⟩)
            have HUp := Lib.hid (peersF_hit F k hfk)
            dsimp only at HMa
            go_wp2_with (at_builtin; refine wpListI_append (xs := peersF F k) (l := [(k : Int)]) rfl _ _ rfl rfl rfl HMa.out HSrc.out (by simp; omega) ?_; intro v' w5 hm; have HM5 := Lib.hid hm; clear hm)
            go_roundw
            case rel => exact ⟨k + 1, by go_num, by omega, by rw [HUp.out]; exact HM5.out⟩
            case measure => simp [intOf]; omega
          | false =>
            rw [hfk] at hix
            have HUp := Lib.hid (peersF_miss F k hfk)
            go_wp2_with fail
            go_roundw
            case rel => exact ⟨k + 1, by go_num, by omega, by rw [HUp.out]; exact HMz.out⟩
            case measure => simp [intOf]; omega
        · obtain rfl : k = 8 := by omega
          go_wp2_with fail
          go_ret
          exact ⟨_, rfl, by rw [peersOf, HF.out]; exact HMz.out⟩
end Go.Proofs.Ytagpbmgeikjnjaa
