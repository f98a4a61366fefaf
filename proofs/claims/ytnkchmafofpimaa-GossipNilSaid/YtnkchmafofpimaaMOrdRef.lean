/- MOrdRef: IntFns, RefShuf, RefSome, RefPeers, RefNext, RoundMath. -/
import Derived.Test.YtnkchmafofpimaaLater
import Derived.Test.YtnkchmafofpimaaSep
import Derived.Test.YtnkchmafofpimaaAppendAt
import Derived.Test.YtnkchmafofpimaaSteps
import Derived.Test.YtnkchmafofpimaaGreedy
import Derived.Test.YtnkchmafofpimaaLaid
import Derived.Test.YtnkchmafofpimaaTaken
import Derived.Test.YtnkchmafofpimaaInts
import Derived.Test.YtnkchmafofpimaaShufMath
import Derived.Laws.Rows
namespace Go.Proofs.Ytnkchmafofpimaa
section
open Go Go.RowKit
theorem contains_take {l : List Int} {k : Nat} {n x : Int} (hk : l[k]? = some x) : (l.take (k + 1)).contains n = ((l.take k).contains n || (x == n)) := by
  rw [List.take_add_one, hk]
  rw [Bool.eq_iff_iff]
  simp only [List.contains_eq_mem, Option.toList_some, List.mem_append, List.mem_singleton, decide_eq_true_eq, Bool.or_eq_true, beq_iff_eq]
  constructor
  · rintro (h | h)
    · exact .inl h
    · exact .inr h.symm
  · rintro (h | h)
    · exact .inl h
    · exact .inr h.symm
set_option maxHeartbeats 1000000 in
set_option maxRecDepth 100000 in
theorem hasI_any (v : Value) (l : List Int) (n : Int) (w : World) (hv : IntsAt w v l) (hl : l.length ≤ 1000) : Gives Try.prog 53 #[v, .int .i64 n] w (.bool (l.contains n)) := by
  unfold Gives
  obtain ⟨p, cap, rfl, hp⟩ := hv.form
  have HP := Lib.hid hp
  obtain ⟨B, hB⟩ : ∃ B, l.contains n = B := ⟨_, rfl⟩
  have HB := Lib.hid hB
  rw [hB]
  clear hv hp hB
  go_enter Try.func53, Try.ntmps53
  go_wp2_with fail
  go_loopw [9] (fun i wr => ∃ k : Nat, k ≤ l.length ∧ i = .int .i64 k ∧ Hid ((l.take k).contains n = false) ∧ ∃ x : Later w, wr = x.w) (fun i _ => l.length - (intOf i).toNat)
  case atStart => exact ⟨0, by omega, rfl, Lib.hid (by simp), ⟨w, Below.refl _ _⟩, rfl⟩
  case round =>
    obtain ⟨k, hk, rfl, HN, x, rfl⟩ := hrel
    by_cases hkl : k < l.length
    · obtain ⟨c, hkc⟩ : ∃ c, l[k]? = some c := ⟨_, List.getElem?_eq_getElem hkl⟩
      rcases HP.out with h0 | ⟨b, o, rfl, hlt, hc⟩
      · rw [h0] at hkl; simp at hkl
      have a0 := hc k _ hkc
      have HK := Lib.hid hkc
      clear hc hkc
      cases hcn : ((c : Int) == n) with
      | true =>
        have HV : Hid (B = true) := Lib.hid (by
          rw [← HB.out, List.contains_eq_mem]
          obtain rfl : c = n := by simpa using hcn
          simpa using List.mem_of_getElem? HK.out)
        go_wp2_with fail
        go_ret
        exact ⟨by rw [HV.out]; rfl, Later.ex (by repeat (first | exact ext_refl _ | refine ext_later ?_ _ | refine ext_alloc ?_ _ | refine ext_drew ?_ | refine ext_drewN ?_ _))⟩
      | false =>
        go_wp2_with fail
        go_roundw
        case rel => exact ⟨k + 1, by omega, by go_num, Lib.hid (by rw [contains_take HK.out, HN.out, hcn]; rfl), x, rfl⟩
        case measure => simp [intOf]; omega
    · obtain rfl : k = l.length := by omega
      have HV : Hid (B = false) := Lib.hid (by have := HN.out; rw [List.take_length] at this; rw [← HB.out]; exact this)
      go_wp2_with fail
      go_ret
      exact ⟨by rw [HV.out]; rfl, Later.ex x.below⟩
def nodeI (n : Int) : Bool := decide (0 ≤ n ∧ n < 8)
set_option maxHeartbeats 400000 in
theorem nodeI_any (n : Int) (w : World) : Gives Try.prog 17 #[.int .i64 n] w (.bool (nodeI n)) := by
  unfold Gives
  by_cases q0 : 0 ≤ n <;> by_cases q1 : n < 8
  all_goals try (exfalso; omega)
  all_goals first | (have H : Hid (nodeI n = true) := Lib.hid (by simp [nodeI]; omega)) | (have H : Hid (nodeI n = false) := Lib.hid (by simp [nodeI]; omega))
  all_goals
    go_enter Try.func17, Try.ntmps17
    go_wp2
    all_goals go_ret
    all_goals exact ⟨by rw [H.out]; rfl, Later.ex (by repeat (first | exact ext_refl _ | refine ext_alloc ?_ _ | refine ext_later ?_ _ | refine ext_drew ?_ | refine ext_drewN ?_ _))⟩
end
section
open Go Go.RowKit
theorem wrap_u64 (n : Int) : IntKind.u64.wrap n = n % 18446744073709551616 := by
  unfold IntKind.wrap
  simp [IntKind.signed, IntKind.bits]
theorem lcg_wrap (x : Int) : IntKind.u64.wrap (IntKind.u64.wrap (x * 6364136223846793005) + 1442695040888963407) = lcg x := by
  rw [wrap_u64, wrap_u64]
  unfold lcg
  rw [Int.emod_add_emod, Int.mul_comm]
theorem drawn_wrap (x : Int) (i : Nat) (hx0 : 0 ≤ x) (hi : i ≤ 1000) : wrap64 ((x / 8589934592).tmod ((i : Int) + 1)) = (drawn x i : Int) := by
  have h0 : 0 ≤ x / 8589934592 := Int.ediv_nonneg hx0 (by decide)
  rw [Int.tmod_eq_emod_of_nonneg h0]
  have h1 := Int.emod_nonneg (x / 8589934592) (show ((i : Int) + 1) ≠ 0 by omega)
  have h2 := Int.emod_lt_of_pos (x / 8589934592) (show (0 : Int) < (i : Int) + 1 by omega)
  unfold drawn
  obtain ⟨r, hr⟩ : ∃ r, x / 8589934592 % ((i : Int) + 1) = r := ⟨_, rfl⟩
  rw [hr] at h1 h2 ⊢
  unfold wrap64
  omega
theorem MadeI.swap {w0 W : World} {g cap n : Nat} {l : List Int} (h : MadeI w0 W (.slice (some ⟨g, 0, none⟩) n cap) l) (hn : l.length = n) {i j : Nat} {a b : Int} (hi : l[i]? = some a) (hj : l[j]? = some b) :
    MadeI w0 ((W.setCell ⟨g, i, none⟩ (.int .i64 b)).setCell ⟨g, j, none⟩ (.int .i64 a)).drew (.slice (some ⟨g, 0, none⟩) n cap) (swapI l i j) := by
  subst hn
  have hil := (List.getElem?_eq_some_iff.1 hi).1
  have hjl := (List.getElem?_eq_some_iff.1 hj).1
  rw [swapI_some hi hj]
  have h1 := h.set hil b
  have h2 := h1.set (k := j) (by simpa using hjl) a
  have h3 := h2.later ⟨_, ext_drew (ext_refl _)⟩
  simp only [List.length_set] at h3
  exact h3
def ShufEnd (l : List Int) (draw : Int) (w : World) (e : Ending) (w' : World) : Prop := ∃ u, e = .returned u ∧ MadeI w w' u (shuf l draw)
set_option maxHeartbeats 4000000 in
set_option maxRecDepth 100000 in
theorem refShuf_any (v : Value) (l : List Int) (draw : Int) (w : World) (hs : SrcI w v l) (hl : l.length * 8 ≤ 140737488351232) (h0 : 0 ≤ draw) (h1 : draw < 18446744073709551616) : Calls Try.prog 54 #[v, .int .u64 draw] w (ShufEnd l draw w) := by
  obtain ⟨p, cap, rfl, hcap, hpc⟩ := hs.2
  obtain ⟨K, hK, hK1, hK2⟩ : ∃ K : Nat, K = min 64 l.length ∧ K ≤ l.length ∧ K ≤ 64 := ⟨_, rfl, by omega, by omega⟩
  have HT : Hid (l.take 64 = l.take K) := Lib.hid (by
    rw [hK]
    by_cases h : 64 ≤ l.length
    · rw [Nat.min_eq_left h]
    · rw [Nat.min_eq_right (by omega), List.take_of_length_le (by omega), List.take_length])
  obtain ⟨M, hM⟩ : ∃ M, l.take K = M := ⟨_, rfl⟩
  have hlen : M.length = K := by rw [← hM, List.length_take]; omega
  have HS0 := srcI_take hs hK1
  rw [hM] at HS0 HT
  have HS := Lib.hid HS0
  have HLen := Lib.hid hlen
  have HB : Hid (M.length * 8 ≤ 140737488355328) := Lib.hid (by omega)
  have hKc : K ≤ cap := by omega
  have hM64 : M.length ≤ 64 := by omega
  have hq : (l.length ≤ 64 ∧ K = l.length) ∨ (64 < l.length ∧ K = 64) := by omega
  clear hs hK HS0 hM hlen
  go_enter Try.func54, Try.ntmps54
  rcases hq with ⟨hq1, hq2⟩ | ⟨hq1, hq2⟩
  all_goals
    subst hq2
    go_wp2_with (at_builtin; refine wpListI_append (xs := []) (l := M) rfl _ _ rfl rfl rfl (madeI_nil (Below.refl w.heap.size w)) HS.out (by simpa using HB.out) ?_; intro v' w1 hm; rw [List.nil_append] at hm; obtain ⟨p1, c1, rfl⟩ := ownsRow_form hm.1; have HM := Lib.hid hm; clear hm)
    go_loopw [6, 7] (fun v6 v7 wr => ∃ (iv : Int) (x : Int) (m : List Int), v7 = .int .i64 iv ∧ -1 ≤ iv ∧ iv < (M.length : Int) ∧ v6 = .int .u64 x ∧ (0 ≤ x ∧ x < 18446744073709551616) ∧ m.length = M.length ∧ MadeI w wr (.slice p1 M.length c1) m ∧ shufFrom iv.toNat x m = shufFrom (M.length - 1) draw M) (fun _ v7 _ => (intOf v7).toNat)
    case atStart => exact ⟨(M.length : Int) - 1, draw, M, by go_num, by omega, by omega, rfl, ⟨h0, h1⟩, rfl, HM.out, by congr 1; omega⟩
    case round =>
      clear HM
      obtain ⟨iv, x, m, rfl, hi1, hi2, rfl, ⟨hx0, hx1⟩, hml, hmade, hsh⟩ := hrel
      have HMd := Lib.hid hmade
      have HSh := Lib.hid hsh
      have HMl := Lib.hid hml
      clear hmade hsh hml
      by_cases hiv : 0 < iv
      · obtain ⟨I, rfl⟩ : ∃ I : Nat, iv = (I : Int) := ⟨iv.toNat, by omega⟩
        obtain ⟨i, hIi⟩ : ∃ i, I = i + 1 := ⟨I - 1, by omega⟩
        have gi : decide ((0 : Int) < (I : Int)) = true := by simp <;> omega
        have hSh' : shufFrom i (lcg x) (swapI m I (drawn (lcg x) I)) = shufFrom (M.length - 1) draw M := by
          have := HSh.out
          rw [Int.toNat_natCast, hIi] at this
          rw [hIi]
          exact this
        have HIi := Lib.hid hIi
        have hI1 : 1 ≤ I := by omega
        clear hIi
        go_upto_region 8 with fail
        rw [lcg_wrap, drawn_wrap (lcg x) I (lcg_range x).1 (by omega)]
        have hr := lcg_range x
        have hJ := drawn_le (lcg x) I
        obtain ⟨X, hX⟩ : ∃ X, lcg x = X := ⟨_, rfl⟩
        rw [hX] at hr hJ hSh' ⊢
        obtain ⟨J, hJe⟩ : ∃ J, drawn X I = J := ⟨_, rfl⟩
        rw [hJe] at hJ hSh' ⊢
        have HS2 := Lib.hid hSh'
        have hml := HMl.out
        obtain ⟨g, cap', hv, hge, hgl, hfz, hcl⟩ := HMd.out.open (by omega)
        obtain ⟨rfl, -, rfl⟩ := Value.slice.inj hv
        obtain ⟨a, ha⟩ : ∃ a, m[I]? = some a := ⟨_, List.getElem?_eq_getElem (by omega)⟩
        obtain ⟨b, hb⟩ : ∃ b, m[J]? = some b := ⟨_, List.getElem?_eq_getElem (by omega)⟩
        have e0 := hcl _ _ ha
        have e1 := hcl _ _ hb
        have z0 := hfz I
        have z1 := hfz J
        have HSw := Lib.hid (HMd.out.swap hml ha hb)
        obtain ⟨hr0, hr1⟩ := hr
        have hiM : I < M.length := by omega
        have hJM : J < M.length := by omega
        clear hSh' hX hJe hv hfz hcl hml HSh HMd hi1 hi2 hiv gi
        by_cases hij : I = J
        · subst hij
          obtain rfl : a = b := by rw [ha] at hb; exact Option.some.inj hb
          clear e1 z1 hb ha
          go_region_law (fail)
          all_goals
            go_wp2_with fail
            go_roundw
            case rel => exact ⟨(I : Int) - 1, X, _, by go_num, by omega, by omega, rfl, ⟨hr0, hr1⟩, by rw [swapI_len]; exact HMl.out, HSw.out, by rw [show ((I : Int) - 1).toNat = i from by have := HIi.out; omega]; exact HS2.out⟩
            case measure => simp [intOf]; omega
        · have n0 : ¬ J = I := fun e => hij e.symm
          clear hb ha
          go_region_law (fail)
          all_goals
            go_wp2_with fail
            go_roundw
            case rel => exact ⟨(I : Int) - 1, X, _, by go_num, by omega, by omega, rfl, ⟨hr0, hr1⟩, by rw [swapI_len]; exact HMl.out, HSw.out, by rw [show ((I : Int) - 1).toNat = i from by have := HIi.out; omega]; exact HS2.out⟩
            case measure => simp [intOf]; omega
      · have hsz : iv.toNat = 0 := by omega
        have HF : Hid (m = shuf l draw) := Lib.hid (by
          have := HSh.out
          rw [hsz] at this
          unfold shuf
          rw [HT.out, ← this]
          rfl)
        have HR := Lib.hid (show MadeI w wr (.slice p1 M.length c1) (shuf l draw) from by rw [← HF.out]; exact HMd.out)
        go_wp2_with fail
        go_ret
        exact ⟨_, rfl, HR.out⟩
end
section
open Go Go.RowKit
theorem MadeI.take {w0 W : World} {p : Option Addr} {n cap : Nat} {l : List Int} (h : MadeI w0 W (.slice p n cap) l) (hn : l.length = n) {m : Nat} (hm : m ≤ n) : MadeI w0 W (.slice p m cap) (l.take m) := by
  subst hn
  have e : (l.take m).length = m := by rw [List.length_take]; omega
  refine ⟨?_, h.2⟩
  rw [e]
  refine ⟨by rw [cellsI_len, e]; omega, ?_⟩
  rcases h.1.2 with ⟨h1, h2⟩ | ⟨g, cap', cur, hv, hb, hg, hnc, hcm, hcs, htk⟩
  · obtain ⟨rfl, h3, rfl⟩ := Value.slice.inj h1
    exact .inl ⟨by rw [show m = 0 by omega], by omega⟩
  · obtain ⟨rfl, _, rfl⟩ := Value.slice.inj hv
    refine .inr ⟨g, cap, cur, rfl, hb, hg, by omega, hcm, hcs, ?_⟩
    have : cur.toList.take (m * 1) = (cur.toList.take (l.length * 1)).take m := by rw [List.take_take]; congr 1; omega
    rw [this, htk]
    simp [cellsI, List.map_take]
def SomeEnd (l : List Int) (k : Int) (draw : Int) (w : World) (e : Ending) (w' : World) : Prop := ∃ u, e = .returned u ∧ MadeI w w' u (some' l k draw)
end
section
open Go Go.RowKit
def tabB (f : Nat → Bool) : Array Value := #[.bool (f 0), .bool (f 1), .bool (f 2), .bool (f 3), .bool (f 4), .bool (f 5), .bool (f 6), .bool (f 7)]
theorem tabB_at (f : Nat → Bool) (j : Nat) (hj : j < 8) : (tabB f)[j]? = some (.bool (f j)) := by
  rcases (by omega : j = 0 ∨ j = 1 ∨ j = 2 ∨ j = 3 ∨ j = 4 ∨ j = 5 ∨ j = 6 ∨ j = 7) with rfl | rfl | rfl | rfl | rfl | rfl | rfl | rfl <;> rfl
theorem tabB_set (f : Nat → Bool) (j : Nat) (hj : j < 8) (x : Bool) : (tabB f).setIfInBounds j (.bool x) = tabB (fun i => if i = j then x else f i) := by
  rcases (by omega : j = 0 ∨ j = 1 ∨ j = 2 ∨ j = 3 ∨ j = 4 ∨ j = 5 ∨ j = 6 ∨ j = 7) with rfl | rfl | rfl | rfl | rfl | rfl | rfl | rfl <;> rfl
theorem tabB_congr {f g : Nat → Bool} (e : ∀ j, j < 8 → f j = g j) : tabB f = tabB g := by
  unfold tabB
  rw [e 0 (by omega), e 1 (by omega), e 2 (by omega), e 3 (by omega), e 4 (by omega), e 5 (by omega), e 6 (by omega), e 7 (by omega)]
theorem index_tabB (f : Nat → Bool) (k : Nat) (hk : k < 8) (w : World) : (Instr.index 48 (.agg (tabB f)) (.int .i64 k)).run Try.prog w = .ok (.bool (f k)) w := by
  rcases (by omega : k = 0 ∨ k = 1 ∨ k = 2 ∨ k = 3 ∨ k = 4 ∨ k = 5 ∨ k = 6 ∨ k = 7) with rfl | rfl | rfl | rfl | rfl | rfl | rfl | rfl <;> kernel_rfl
structure BTab (w : World) (tb : Nat) (f : Nat → Bool) (W : World) : Prop where
  below : Below w.heap.size w W
  obj : W.heap[tb]? = some (.cells (tabB f) 48 (0, 0))
  ge : w.heap.size ≤ tb
section
variable {w W : World} {tb : Nat} {f : Nat → Bool}
theorem BTab.lt (h : BTab w tb f W) : tb < W.heap.size := (Array.getElem?_eq_some_iff.1 h.obj).1
theorem BTab.cell (h : BTab w tb f W) (j : Nat) (hj : j < 8) : W.cell? ⟨tb, j, none⟩ = some (.bool (f j)) := by
  have := tabB_at f j hj
  simp only [World.cell?, h.obj]
  exact this
theorem BTab.fz (h : BTab w tb f W) (j : Nat) : W.frozen? ⟨tb, j, none⟩ = false := by simp [World.frozen?, h.obj]
theorem BTab.later (h : BTab w tb f W) (x : Later W) : BTab w tb f x.w := ⟨below_later h.below h.below.size x, (x.below.block _ h.lt).trans h.obj, h.ge⟩
theorem BTab.set (h : BTab w tb f W) (j : Nat) (hj : j < 8) (x : Bool) : BTab w tb (fun i => if i = j then x else f i) (W.setCell ⟨tb, j, none⟩ (.bool x)) :=
  ⟨ext_setCell h.below _ _ h.ge, by rw [heap_setCell_same _ _ _ _ _ _ h.obj, tabB_set f j hj], h.ge⟩
theorem BTab.cast {g : Nat → Bool} (h : BTab w tb f W) (e : ∀ j, j < 8 → f j = g j) : BTab w tb g W := ⟨h.below, by rw [← tabB_congr e]; exact h.obj, h.ge⟩
theorem BTab.start (w : World) : BTab w w.heap.size (fun _ => false) (w.alloc (.cells #[.bool false, .bool false, .bool false, .bool false, .bool false, .bool false, .bool false, .bool false] 48)) := ⟨ext_alloc (ext_refl w) _, heap_alloc_new w _, Nat.le_refl _⟩
end
theorem isPeer_up {l : List Int} {k : Nat} {x self : Int} (hk : l[k]? = some x) (j : Nat) : isPeer (l.take (k + 1)) self j = if x = (j : Int) then (isPeer (l.take k) self j || !((j : Int) == self)) else isPeer (l.take k) self j := by
  unfold isPeer
  rw [contains_take hk]
  by_cases e : x = (j : Int)
  · rw [if_pos e]
    have : (x == (j : Int)) = true := by simpa using e
    rw [this]
    cases (List.take k l).contains (j : Int) <;> cases ((j : Int) == self) <;> rfl
  · rw [if_neg e]
    have : (x == (j : Int)) = false := by simpa using e
    rw [this]
    simp
def PeersEnd (l : List Int) (self : Int) (w : World) (e : Ending) (w' : World) : Prop := ∃ u, e = .returned u ∧ MadeI w w' u (peersOf l self)
set_option maxHeartbeats 4000000 in
set_option maxRecDepth 100000 in
theorem refPeers_any (v : Value) (l : List Int) (self : Int) (w : World) (hs : IntsAt w v l) (hl : l.length * 8 ≤ 140737488351232) : Calls Try.prog 52 #[v, .int .i64 self] w (PeersEnd l self w) := by
  obtain ⟨p, cap, rfl, hp⟩ := hs.form
  have HP := Lib.hid hp
  have HT0 := Lib.hid (BTab.start w)
  have HN := Lib.hid nodeI_any
  clear hs hp
  go_enter Try.func52, Try.ntmps52
  go_upto_region 2 with fail
  obtain ⟨tb, htb⟩ : ∃ b, w.heap.size = b := ⟨_, rfl⟩
  obtain ⟨w1, hw1⟩ : ∃ W, w.alloc (.cells #[.bool false, .bool false, .bool false, .bool false, .bool false, .bool false, .bool false, .bool false] 48) = W := ⟨_, rfl⟩
  have HT1 : Hid (BTab w tb (fun _ => false) w1) := Lib.hid (by rw [← htb, ← hw1]; exact HT0.out)
  rw [htb, hw1]
  clear htb hw1 HT0
  go_wp2_with fail
  go_loopw [13] (fun v13 wr => ∃ k : Nat, v13 = .int .i64 k ∧ k ≤ l.length ∧ Hid (BTab w tb (isPeer (l.take k) self) wr)) (fun v13 _ => l.length - (intOf v13).toNat)
  case atStart => exact ⟨0, rfl, by omega, Lib.hid (HT1.out.cast fun j hj => by simp [isPeer])⟩
  case round =>
    clear HT1
    obtain ⟨k, rfl, hk, HB⟩ := hrel
    by_cases hkl : k < l.length
    · obtain ⟨x, hkc⟩ : ∃ c, l[k]? = some c := ⟨_, List.getElem?_eq_getElem hkl⟩
      rcases HP.out with h0 | ⟨b, o, rfl, hlt, hc⟩
      · rw [h0] at hkl; simp at hkl
      have hc0 : wr.cell? ⟨b, o + k, none⟩ = some (.int .i64 x) := (HB.out.below.cell (p := ⟨b, _, none⟩) hlt).trans (hc k x hkc)
      have HUp := Lib.hid (fun j => isPeer_up (self := self) hkc j)
      have hkd : decide ((k : Int) < (l.length : Int)) = true := by simp; omega
      clear hc hkc
      cases hn : nodeI x with
      | false =>
        have HN0 : Hid (∀ W, Gives Try.prog 17 #[.int .i64 x] W (.bool false)) := Lib.hid fun W => (HN.out x W).cast (by rw [hn])
        have HS : Hid (∀ j, j < 8 → isPeer (l.take k) self j = isPeer (l.take (k + 1)) self j) := Lib.hid fun j hj => by
          rw [HUp.out j, if_neg]
          intro e
          simp only [nodeI, decide_eq_false_iff_not] at hn
          omega
        clear hn
        go_wp2_with fail
        refine Gives.mono' (HN0.out _) ?_
        intro x1
        go_wp2_with fail
        go_roundw
        case rel => exact ⟨k + 1, by go_num, by omega, Lib.hid ((HB.out.later x1).cast HS.out)⟩
        case measure => simp [intOf]; omega
      | true =>
        have HN0 : Hid (∀ W, Gives Try.prog 17 #[.int .i64 x] W (.bool true)) := Lib.hid fun W => (HN.out x W).cast (by rw [hn])
        simp only [nodeI, decide_eq_true_eq] at hn
        obtain ⟨m, rfl⟩ : ∃ m : Nat, x = m := ⟨x.toNat, by omega⟩
        have hm8 : m < 8 := by omega
        clear hn
        cases hself : (((m : Int)) != self) with
        | false =>
          have HS : Hid (∀ j, j < 8 → isPeer (l.take k) self j = isPeer (l.take (k + 1)) self j) := Lib.hid fun j hj => by
            rw [HUp.out j]
            split
            · rename_i e
              have : j = m := by omega
              subst this
              have e2 : ((j : Int) == self) = true := by simpa using hself
              rw [e2]
              simp
            · rfl
          go_wp2_with fail
          refine Gives.mono' (HN0.out _) ?_
          intro x1
          go_wp2_with fail
          go_roundw
          case rel => exact ⟨k + 1, by go_num, by omega, Lib.hid ((HB.out.later x1).cast HS.out)⟩
          case measure => simp [intOf]; omega
        | true =>
          have HS : Hid (∀ j, j < 8 → (if j = m then true else isPeer (l.take k) self j) = isPeer (l.take (k + 1)) self j) := Lib.hid fun j hj => by
            rw [HUp.out j]
            by_cases e : j = m
            · subst e
              have e2 : ((j : Int) == self) = false := by simpa using hself
              rw [e2, if_pos rfl, if_pos rfl]
              simp
            · rw [if_neg e, if_neg (by omega)]
          go_wp2_with fail
          refine Gives.mono' (HN0.out _) ?_
          intro x1
          have HB1 := Lib.hid (HB.out.later x1)
          have z0 := HB1.out.cell m hm8
          have z1 := HB1.out.fz m
          have z2 := HB1.out.lt
          go_wp2_with fail
          go_roundw
          case rel => exact ⟨k + 1, by go_num, by omega, Lib.hid ((HB1.out.set m hm8 true).cast HS.out)⟩
          case measure => simp [intOf]; omega
    · obtain rfl : k = l.length := by omega
      have HB2 : Hid (BTab w tb (isPeer l self) wr) := Lib.hid (by have := HB.out; rw [List.take_length] at this; exact this)
      have HObj := Lib.hid HB2.out.obj
      have hlt := HB2.out.lt
      clear HB HP hkl hk
      obtain ⟨F, hF⟩ : ∃ F, isPeer l self = F := ⟨_, rfl⟩
      have HF := Lib.hid hF
      rw [hF] at HObj HB2
      clear hF
      go_wp2_with (refine wpList_load_row rfl _ _ rfl tb rfl _ _ _ _ HObj.out Try.underlying48 (by kernel_rfl) (by kernel_rfl) ?_)
      obtain ⟨tab, htab⟩ : ∃ t, tabB F = t := ⟨_, rfl⟩
      have HIx : Hid (∀ (j : Nat) W, j < 8 → (Instr.index 48 (.agg tab) (.int .i64 j)).run Try.prog W = .ok (.bool (F j)) W) := Lib.hid fun j W hj => by rw [← htab]; exact index_tabB _ j hj W
      rw [htab]
      clear htab HObj
      have HB3 := Lib.hid HB2.out.below
      obtain ⟨w2, hw2⟩ : ∃ W, W = wr := ⟨_, rfl⟩
      subst hw2
      clear HB2 hlt
      go_loopw [8, 28] (fun v8 v28 wz => ∃ k : Nat, v28 = .int .i64 k ∧ k ≤ 8 ∧ MadeI w wz v8 (peersF F k)) (fun _ v28 _ => 8 - (intOf v28).toNat)
      case atStart => exact ⟨0, rfl, by omega, madeI_nil HB3.out⟩
      case round =>
        obtain ⟨k, rfl, hk, hmade⟩ := hrel
        have hlen := peersF_len F k
        obtain ⟨pz, cz, rfl⟩ := ownsRow_form hmade.1
        obtain ⟨vz, hvz⟩ : ∃ v, Value.slice pz (peersF F k).length cz = v := ⟨_, rfl⟩
        have HVz := Lib.hid hvz
        have HMz := Lib.hid hmade
        rw [hvz] at HMz ⊢
        clear hvz hmade
        by_cases hk8 : k < 8
        · have hkd : decide ((k : Int) < 8) = true := by simp; omega
          have hix := fun W => HIx.out k W hk8
          cases hfk : F k with
          | true =>
            rw [hfk] at hix
            have HSrc : Hid (SrcI (wr.alloc (.cells #[.int .i64 k] 3)) (.slice (some ⟨wr.heap.size, 0, none⟩) 1 1) [(k : Int)]) := Lib.hid (srcI_one (heap_alloc_new wr _))
            have HMa := Lib.hid (HMz.out.later ⟨wr.alloc (.cells #[.int .i64 k] 3), ext_alloc (ext_refl _) _⟩)
            have HUp := Lib.hid (peersF_hit F k hfk)
            dsimp only at HMa
            go_wp2_with (at_builtin; refine wpListI_append (xs := peersF F k) (l := [(k : Int)]) rfl _ _ rfl rfl rfl HMa.out HSrc.out (by simp; omega) ?_; intro v' w5 hm; have HM5 := Lib.hid hm; clear hm)
            go_roundw
            case rel => exact ⟨k + 1, by go_num, by omega, by rw [HUp.out]; exact HM5.out⟩
            case measure => simp [intOf]; omega
          | false =>
            rw [hfk] at hix
            have HUp := Lib.hid (peersF_miss F k hfk)
            go_wp2_with fail
            go_roundw
            case rel => exact ⟨k + 1, by go_num, by omega, by rw [HUp.out]; exact HMz.out⟩
            case measure => simp [intOf]; omega
        · obtain rfl : k = 8 := by omega
          go_wp2_with fail
          go_ret
          exact ⟨_, rfl, by rw [peersOf, HF.out]; exact HMz.out⟩
end
section
open Go Go.RowKit
/-- The reference's order at block m: who asks, who is left; the blocks that it reaches. -/
def RefO (m : Nat) (self : Int) (rest : List Int) (W : World) (H : Nat → Prop) : Prop :=
  ∃ v, W.heap[m]? = some (.cells #[.int .i64 self, v] 71 (0, 0)) ∧ IntsAt W v rest ∧ (∀ k, H k ↔ k = m ∨ (rest ≠ [] ∧ ∃ o n c, v = .slice (some ⟨k, o, none⟩) n c))
theorem refO_owns (m : Nat) (self : Int) (rest : List Int) : Owns (RefO m self rest) where
  lt W H h k hk := by
    obtain ⟨v, hm, hi, hH⟩ := h
    rcases (hH k).1 hk with rfl | ⟨hne, o, n, c, rfl⟩
    · exact (Array.getElem?_eq_some_iff.1 hm).1
    · rcases hi with ⟨h0, _⟩ | ⟨b, o', cap, he, hlt, _⟩
      · exact absurd h0 hne
      · simp only [Value.slice.injEq, Option.some.injEq, Addr.mk.injEq] at he
        obtain ⟨⟨rfl, _, _⟩, _, _⟩ := he
        exact hlt
  kept W W' H h hs hk := by
    obtain ⟨v, hm, hi, hH⟩ := h
    refine ⟨v, (hk m ((hH m).2 (.inl rfl))).trans hm, ?_, hH⟩
    rcases hi with h0 | ⟨b, o, cap, rfl, hlt, hc⟩
    · exact .inl h0
    · by_cases hne : rest = []
      · subst hne
        exact .inl ⟨rfl, _, _, rfl⟩
      · refine .inr ⟨b, o, cap, rfl, Nat.lt_of_lt_of_le hlt hs, fun k x hx => ?_⟩
        have hb := hk b ((hH b).2 (.inr ⟨hne, _, _, _, rfl⟩))
        have := hc k x hx
        simp only [World.cell?, hb] at this ⊢
        exact this
/-- Behind Next. -/
def ROEnd (m : Nat) (self : Int) (rest : List Int) (H : Nat → Prop) (W W' : World) : Prop := ∃ H', RefO m self rest W' H' ∧ Fr (fun k => k = m) W W' ∧ ∀ k, H' k → H k ∨ W.heap.size ≤ k
theorem MadeI.src {w0 W : World} {v : Value} {l : List Int} (h : MadeI w0 W v l) : SrcI W v l := by
  refine ⟨h.list, ?_⟩
  rcases h.1.2 with ⟨rfl, h0⟩ | ⟨g, cap, cur, rfl, _, _, hnc, _⟩
  · exact ⟨none, 0, by rw [h0], by omega, fun _ => rfl⟩
  · exact ⟨some ⟨g, 0, none⟩, cap, rfl, hnc, fun h => by cases h⟩
theorem filter_hit {P l : List Int} {k : Nat} {x : Int} (hk : l[k]? = some x) (h : P.contains x = true) : (l.take (k + 1)).filter (fun n => P.contains n) = (l.take k).filter (fun n => P.contains n) ++ [x] := by
  rw [List.take_add_one, hk, List.filter_append]
  simp only [Option.toList_some, List.filter_cons, h, if_true, List.filter_nil]
theorem filter_miss {P l : List Int} {k : Nat} {x : Int} (hk : l[k]? = some x) (h : P.contains x = false) : (l.take (k + 1)).filter (fun n => P.contains n) = (l.take k).filter (fun n => P.contains n) := by
  rw [List.take_add_one, hk, List.filter_append]
  simp only [Option.toList_some, List.filter_cons, h, Bool.false_eq_true, if_false, List.filter_nil, List.append_nil]
def NextEnd (m : Nat) (self : Int) (rest peers : List Int) (draw : Int) (H : Nat → Prop) (w : World) (e : Ending) (w' : World) : Prop := e = .returned (.int .i64 (nextOf self rest peers draw).1) ∧ ROEnd m self (nextOf self rest peers draw).2 H w w'
/-- What is left behind the first one: the slice from 1 on. -/
theorem next_done {m : Nat} {self x : Int} {r rest : List Int} {w w3 : World} {H : Nat → Prop} {wb : World} {g cap : Nat} (h : RefO m self rest w H) (hwb : w.heap.size ≤ wb.heap.size) (hb : Below w.heap.size w w3) (hm : MadeI wb w3 (.slice (some ⟨g, 0, none⟩) (r.length + 1) cap) (x :: r)) :
    ROEnd m self r H w (w3.setCell ⟨m, 1, none⟩ (.slice (if cap = 1 then some ⟨g, 0, none⟩ else some ⟨g, 1, none⟩) r.length (cap - 1))) := by
  obtain ⟨v, hq, hi, hH⟩ := h
  have hlt := (Array.getElem?_eq_some_iff.1 hq).1
  have h3 := (hb.block m hlt).trans hq
  have hge := (hm.1.lt g rfl).1
  have hgm : g ≠ m := by omega
  have hop := hm.open (by simp)
  obtain ⟨g', cap', hv, _, hgl, _, hc⟩ := hop
  obtain ⟨hv1, _, rfl⟩ := Value.slice.inj hv
  obtain rfl : g = g' := by simpa using hv1
  have hcap : r.length + 1 ≤ cap := by
    rcases hm.1.2 with ⟨h1, h2⟩ | ⟨g', cap', cur, hv, _, _, hnc, _⟩
    · simp at h1
    · obtain ⟨_, _, rfl⟩ := Value.slice.inj hv
      simpa using hnc
  refine ⟨fun k => k = m ∨ (r ≠ [] ∧ k = g), ⟨_, by rw [heap_setCell_same _ _ _ _ _ _ h3]; rfl, ?_, fun k => ?_⟩, (Fr.of_below hb).set m 1 _ (.inl rfl), fun k hk => ?_⟩
  · by_cases hr : r = []
    · subst hr
      exact .inl ⟨rfl, _, _, rfl⟩
    · have hr1 : 0 < r.length := List.length_pos_iff.2 hr
      rw [if_neg (by omega)]
      refine .inr ⟨g, 1, cap - 1, rfl, by simpa using hgl, fun k y hk => ?_⟩
      rw [World.cell?_setCell_other _ _ _ _ (by intro h; simp only [Addr.mk.injEq] at h; omega)]
      rw [Nat.add_comm]
      exact hc (k + 1) y (by simpa using hk)
  · by_cases hr : r = []
    · simp [hr]
    · have hr1 : 0 < r.length := List.length_pos_iff.2 hr
      rw [if_neg (by omega)]
      simp [hr, eq_comm]
  · rcases hk with rfl | ⟨_, rfl⟩
    · exact .inl ((hH k).2 (.inl rfl))
    · exact .inr (Nat.le_trans hwb hge)
set_option maxHeartbeats 4000000 in
set_option maxRecDepth 100000 in
theorem refNext_any (m : Nat) (self : Int) (rest peers : List Int) (draw : Int) (v : Value) (w : World) (H : Nat → Prop) (h : RefO m self rest w H) (hrest : rest.length ≤ 100) (hs : IntsAt w v peers) (hl : peers.length * 8 ≤ 140737488351232) (h0 : 0 ≤ draw) (h1 : draw < 18446744073709551616) :
    Calls Try.prog 29 #[.pointer (some ⟨m, 0, none⟩), v, .int .u64 draw] w (NextEnd m self rest peers draw H w) := by
  have HP := Lib.hid (refPeers_any v peers self w hs hl)
  have HO := Lib.hid h
  obtain ⟨vo, hq, hio, _⟩ := h
  have hlt := (Array.getElem?_eq_some_iff.1 hq).1
  have e0 : w.cell? ⟨m, 0, none⟩ = some (.int .i64 self) := by simp [World.cell?, hq]
  have HQ := Lib.hid hq
  have HIo := Lib.hid hio
  obtain ⟨pv, cv, rfl, _⟩ := hs.form
  obtain ⟨P, hP⟩ : ∃ P, peersOf peers self = P := ⟨_, rfl⟩
  have hP8 : P.length ≤ 8 := by rw [← hP]; exact peersOf_len _ _
  have HPe := Lib.hid hP
  unfold PeersEnd at HP
  rw [hP] at HP
  clear hs hq hio hP
  go_enter Try.func29, Try.ntmps29
  go_wp2_with fail
  refine HP.out.mono ?_
  rintro e w1 ⟨u, rfl, hmade⟩
  obtain ⟨p1, c1, rfl⟩ := ownsRow_form hmade.1
  have HM1 := Lib.hid hmade
  have hq1 := (hmade.2.block m hlt).trans HQ.out
  have e1 : w1.cell? ⟨m, 1, none⟩ = some vo := by simp [World.cell?, hq1]
  have hl1 : m < w1.heap.size := Nat.lt_of_lt_of_le hlt hmade.2.size
  clear hmade HP e0
  by_cases hP0 : P.length = 0
  · have hPn : P = [] := List.eq_nil_of_length_eq_zero hP0
    have HR : Hid (nextOf self rest peers draw = (-1, rest)) := Lib.hid (by unfold nextOf; rw [HPe.out, if_pos hPn])
    have HEnd := Lib.hid (show ROEnd m self rest H w w1 from ⟨H, (refO_owns m self rest).kept w w1 H HO.out HM1.out.2.size fun k hk => HM1.out.2.block k ((refO_owns m self rest).lt w H HO.out k hk), Fr.of_below HM1.out.2, fun k hk => .inl hk⟩)
    rw [hP0]
    clear hq1 e1
    go_wp2_with fail
    go_ret
    exact ⟨by rw [HR.out]; rfl, by rw [HR.out]; exact HEnd.out⟩
  · have hP1 : 0 < P.length := by omega
    have gP : (((P.length : Nat) : Int) == 0) = false := by rw [beq_eq_false_iff_ne]; omega
    obtain ⟨po, co, hvo, hcell⟩ := (HIo.out.below HM1.out.2).form
    subst hvo
    have HCo := Lib.hid hcell
    clear hq1 hcell
    go_wp2_with fail
    clear e1
    obtain ⟨w2, hw2⟩ : ∃ W, W = w1 := ⟨_, rfl⟩
    subst hw2
    go_loopw [8, 25] (fun v8 v25 wz => ∃ k : Nat, v25 = .int .i64 k ∧ k ≤ rest.length ∧ MadeI w2 wz v8 ((rest.take k).filter fun n => P.contains n)) (fun _ v25 _ => rest.length - (intOf v25).toNat)
    case atStart => exact ⟨0, rfl, by omega, madeI_nil (Below.refl _ _)⟩
    case round =>
      obtain ⟨k, rfl, hk, hmz⟩ := hrel
      have hlen : ((rest.take k).filter fun n => P.contains n).length ≤ 100 := by
        refine Nat.le_trans (List.length_filter_le _ _) ?_
        rw [List.length_take]; omega
      obtain ⟨pz, cz, hvz⟩ := ownsRow_form hmz.1
      obtain ⟨fl, hfl⟩ : ∃ l, ((rest.take k).filter fun n => P.contains n) = l := ⟨_, rfl⟩
      have HFl := Lib.hid hfl
      rw [hfl] at hmz hlen hvz
      have HMz := Lib.hid hmz
      clear hmz hfl
      by_cases hkl : k < rest.length
      · obtain ⟨n, hkc⟩ : ∃ c, rest[k]? = some c := ⟨_, List.getElem?_eq_getElem hkl⟩
        rcases HCo.out with h0 | ⟨b, o, rfl, hbl, hc⟩
        · rw [h0] at hkl; simp at hkl
        have hc0 : wr.cell? ⟨b, o + k, none⟩ = some (.int .i64 n) := (HMz.out.2.cell (p := ⟨b, _, none⟩) hbl).trans (hc k n hkc)
        have hbz : b < wr.heap.size := Nat.lt_of_lt_of_le hbl HMz.out.2.size
        have HHas := Lib.hid (hasI_any (.slice p1 P.length c1) P n wr (HM1.out.list.below HMz.out.2) (by omega))
        have hkd : decide ((k : Int) < (rest.length : Int)) = true := by simp; omega
        cases hcn : P.contains n with
        | true =>
          rw [hcn] at HHas
          have HUp := Lib.hid (filter_hit hkc hcn)
          clear hc hkc hcn hvz
          go_wp2_with fail
          refine Gives.mono' HHas.out ?_
          intro x2
          have HSrc : Hid (SrcI (x2.w.alloc (.cells #[.int .i64 n] 3)) (.slice (some ⟨x2.w.heap.size, 0, none⟩) 1 1) [n]) := Lib.hid (srcI_one (heap_alloc_new x2.w _))
          have HMa := Lib.hid ((HMz.out.later x2).later ⟨x2.w.alloc (.cells #[.int .i64 n] 3), ext_alloc (ext_refl _) _⟩)
          dsimp only at HMa
          go_wp2_with (at_builtin; refine wpListI_append (xs := fl) (l := [n]) rfl _ _ rfl rfl rfl HMa.out HSrc.out (by simp; omega) ?_; intro v' w5 hm; have HM5 := Lib.hid hm; clear hm)
          go_roundw
          case rel => exact ⟨k + 1, by go_num, by omega, by rw [HUp.out, HFl.out]; exact HM5.out⟩
          case measure => simp [intOf]; omega
        | false =>
          rw [hcn] at HHas
          have HUp := Lib.hid (filter_miss hkc hcn)
          clear hc hkc hcn hvz
          go_wp2_with fail
          refine Gives.mono' HHas.out ?_
          intro x2
          go_wp2_with fail
          go_roundw
          case rel => exact ⟨k + 1, by go_num, by omega, by rw [HUp.out, HFl.out]; exact HMz.out.later x2⟩
          case measure => simp [intOf]; omega
      · obtain rfl : k = rest.length := by omega
        subst hvz
        have hflr : rest.filter (fun n => P.contains n) = fl := by have := HFl.out; rw [List.take_length] at this; exact this
        have HB3 := Lib.hid (HM1.out.2.trans (HMz.out.2.mono HM1.out.2.size))
        have HQ3 := Lib.hid ((HB3.out.block m hlt).trans HQ.out)
        have hl3 : m < wr.heap.size := Nat.lt_of_lt_of_le hlt HB3.out.size
        -- from a row of whom is left
        have HFin : Hid (∀ (W wb : World) (x : Int) (r : List Int) (g cap : Nat), leftNow rest P draw = x :: r → w.heap.size ≤ wb.heap.size → Below w.heap.size w W → MadeI wb W (.slice (some ⟨g, 0, none⟩) (r.length + 1) cap) (x :: r) → (nextOf self rest peers draw).1 = x ∧ ROEnd m self (nextOf self rest peers draw).2 H w (W.setCell ⟨m, 1, none⟩ (.slice (if cap = 1 then some ⟨g, 0, none⟩ else some ⟨g, 1, none⟩) r.length (cap - 1)))) := Lib.hid fun W wb x r g cap hx hwb hbb hmm => by
          have hne : P ≠ [] := fun e => by rw [e] at hP1; simp at hP1
          have e : nextOf self rest peers draw = (x, r) := by unfold nextOf; rw [HPe.out, if_neg hne, hx]; rfl
          rw [e]
          exact ⟨rfl, next_done HO.out hwb hbb hmm⟩
        cases fl with
        | nil =>
          have hne : P ≠ [] := fun e => by rw [e] at hP1; simp at hP1
          have hLN : leftNow rest P draw = shuf P draw := by unfold leftNow; rw [hflr]
          obtain ⟨x, r, hxr⟩ : ∃ x r, shuf P draw = x :: r := by
            cases hs : shuf P draw with
            | nil => exact absurd (hLN.trans hs) (leftNow_ne hne)
            | cons x r => exact ⟨x, r, rfl⟩
          have hr8 : r.length ≤ 64 := by have := shuf_len P draw; rw [hxr, List.length_cons] at this; omega
          have HSh := Lib.hid (refShuf_any (.slice p1 P.length c1) P draw wr (HM1.out.src.below HMz.out.2) (by omega) h0 h1)
          unfold ShufEnd at HSh
          rw [hxr] at HSh
          have HFin' := Lib.hid (fun W wb g cap => HFin.out W wb x r g cap (hLN.trans hxr))
          clear hflr hLN hxr HFin
          go_wp2_with fail
          refine HSh.out.mono ?_
          rintro e w4 ⟨u2, rfl, hm4⟩
          obtain ⟨g, cap, rfl, -⟩ := hm4.open (by simp)
          have hq4 := (hm4.2.block m hl3).trans HQ3.out
          have HB4 := Lib.hid (HB3.out.trans (hm4.2.mono HB3.out.size))
          rw [List.length_cons] at hm4 ⊢
          have HM4 := Lib.hid hm4
          have hl4 : m < w4.heap.size := Nat.lt_of_lt_of_le hl3 hm4.2.size
          clear hm4
          have hge := (HM4.out.1.lt g rfl).1
          have hgm : g ≠ m := by omega
          obtain ⟨g', cap', hv, _, hgl, _, hc⟩ := HM4.out.open (by simp)
          obtain ⟨hv1, -, hv3⟩ := Value.slice.inj hv
          obtain rfl : g = g' := by simpa using hv1
          have hx0 := hc 0 x (by simp)
          have hcap : r.length + 1 ≤ cap := by
            rcases HM4.out.1.2 with ⟨h1, h2⟩ | ⟨g', cap', cur, hv, _, _, hnc, _⟩
            · simp at h1
            · obtain ⟨_, _, rfl⟩ := Value.slice.inj hv
              simpa using hnc
          have m1 : w4.cell? ⟨m, 1, none⟩ = some (.slice po rest.length co) := by simp [World.cell?, hq4]
          have m2 : w4.frozen? ⟨m, 1, none⟩ = false := by simp [World.frozen?, hq4]
          clear hq4 hc hv hv1 hv3 hge
          have HF1 := Lib.hid (HFin'.out w4 wr g cap HB3.out.size HB4.out HM4.out)
          by_cases hc1 : cap = 1
          · subst hc1
            rw [if_pos rfl, show r.length = 0 from by omega] at HF1
            go_wp2_with fail
            go_ret
            exact ⟨by rw [HF1.out.1]; rfl, HF1.out.2⟩
          · rw [if_neg hc1] at HF1
            go_wp2_with fail
            go_ret
            exact ⟨by rw [HF1.out.1]; rfl, HF1.out.2⟩
        | cons x r =>
          have hLN : leftNow rest P draw = x :: r := by unfold leftNow; rw [hflr]
          have HFin' := Lib.hid (fun W wb g cap => HFin.out W wb x r g cap hLN)
          have hr8 : r.length ≤ 100 := by simpa using (Nat.le_trans (Nat.le_of_lt (Nat.lt_succ_self _)) (by simpa using hlen : r.length + 1 ≤ 100))
          obtain ⟨g, cap, hvz, -⟩ := HMz.out.open (by simp)
          obtain ⟨rfl, -, rfl⟩ := Value.slice.inj hvz
          have HM4 := HMz
          rw [List.length_cons] at HM4 ⊢
          clear HFl hflr hLN HFin HMz hvz
          have hge := (HM4.out.1.lt g rfl).1
          have hgm : g ≠ m := by have := HM1.out.2.size; omega
          obtain ⟨g', cap', hv, _, hgl, _, hc⟩ := HM4.out.open (by simp)
          obtain ⟨hv1, -, hv3⟩ := Value.slice.inj hv
          obtain rfl : g = g' := by simpa using hv1
          have hx0 := hc 0 x (by simp)
          have hcap : r.length + 1 ≤ cz := by
            rcases HM4.out.1.2 with ⟨h1, h2⟩ | ⟨g', cap', cur, hv, _, _, hnc, _⟩
            · simp at h1
            · obtain ⟨_, _, rfl⟩ := Value.slice.inj hv
              simpa using hnc
          have m1 : wr.cell? ⟨m, 1, none⟩ = some (.slice po rest.length co) := by simp [World.cell?, HQ3.out]
          have m2 : wr.frozen? ⟨m, 1, none⟩ = false := by simp [World.frozen?, HQ3.out]
          have gr : (((r.length : Nat) : Int) + 1 == 0) = false := by rw [beq_eq_false_iff_ne]; omega
          clear hc hv hv1 hv3 hge
          have HF1 := Lib.hid (HFin'.out wr w2 g cz HM1.out.2.size HB3.out HM4.out)
          by_cases hc1 : cz = 1
          · subst hc1
            rw [if_pos rfl, show r.length = 0 from by omega] at HF1
            go_wp2_with fail
            go_ret
            exact ⟨by rw [HF1.out.1]; rfl, HF1.out.2⟩
          · rw [if_neg hc1] at HF1
            go_wp2_with fail
            go_ret
            exact ⟨by rw [HF1.out.1]; rfl, HF1.out.2⟩
end
section
open Go Go.RowKit
theorem filter_all {P rest : List Int} (h : ∀ x ∈ rest, x ∈ P) : rest.filter (fun n => P.contains n) = rest := by
  rw [List.filter_eq_self]
  intro x hx
  rw [List.contains_eq_mem]
  simpa using h x hx
theorem peersF_nodup (f : Nat → Bool) (k : Nat) : (peersF f k).Nodup := by
  unfold peersF
  rw [List.Nodup, List.pairwise_map]
  refine List.Pairwise.sublist List.filter_sublist ?_
  exact List.Pairwise.imp (fun {a b} h => by omega) List.nodup_range
theorem peersOf_nodup (l : List Int) (self : Int) : (peersOf l self).Nodup := peersF_nodup _ _
theorem peersOf_mem {l : List Int} {self x : Int} : x ∈ peersOf l self ↔ (0 ≤ x ∧ x < 8) ∧ x ∈ l ∧ x ≠ self := by
  unfold peersOf peersF isPeer
  simp only [List.mem_map, List.mem_filter, List.mem_range, Bool.and_eq_true, List.contains_eq_mem, decide_eq_true_eq, Bool.not_eq_true', beq_eq_false_iff_ne, ne_eq]
  constructor
  · rintro ⟨j, ⟨hj, h1, h2⟩, rfl⟩
    exact ⟨⟨by omega, by omega⟩, h1, h2⟩
  · rintro ⟨⟨h0, h8⟩, h1, h2⟩
    exact ⟨x.toNat, ⟨by omega, by rw [show ((x.toNat : Nat) : Int) = x from by omega]; exact h1, by rw [show ((x.toNat : Nat) : Int) = x from by omega]; exact h2⟩, by omega⟩
/-- Behind t questions (t at least 1): who is left; how often each was asked. -/
structure RoundInv (P : List Int) (t : Nat) (rest : List Int) (asked : Nat → Int) : Prop where
  sub : ∀ x ∈ rest, x ∈ P
  nodup : rest.Nodup
  len : rest.length = P.length - 1 - (t - 1) % P.length
  count : ∀ j : Nat, (j : Int) ∈ P → asked j = ((t - 1) / P.length : Nat) + (if (j : Int) ∈ rest then 0 else 1)
  none : ∀ j : Nat, (j : Int) ∉ P → asked j = 0
theorem round_head {P rest : List Int} {draw : Int} (hP : P ≠ []) : ∃ x r, leftNow rest P draw = x :: r := by
  cases h : leftNow rest P draw with
  | nil => exact absurd h (leftNow_ne hP)
  | cons x r => exact ⟨x, r, rfl⟩
theorem shuf_mem {P : List Int} (h8 : P.length ≤ 64) (draw : Int) : (shuf P draw).Perm P := by
  have := shuf_perm P draw
  rwa [List.take_of_length_le h8] at this
/-- The first question. -/
theorem RoundInv.first {P : List Int} {draw : Int} {x : Int} {r : List Int} (h8 : P.length ≤ 64) (hn : P.Nodup) (hx : leftNow [] P draw = x :: r) :
    x ∈ P ∧ RoundInv P 1 r (fun j => if (j : Int) = x then 1 else 0) := by
  have hx' : shuf P draw = x :: r := by
    unfold leftNow at hx
    exact hx
  have hp := shuf_mem h8 draw
  rw [hx'] at hp
  have hnd : (x :: r).Nodup := hp.symm.nodup hn
  rw [List.nodup_cons] at hnd
  refine ⟨hp.subset (by simp), fun y hy => hp.subset (by simp [hy]), hnd.2, ?_, fun j hj => ?_, fun j hj => ?_⟩
  · have := hp.length_eq
    rw [List.length_cons] at this
    rw [Nat.sub_self, Nat.zero_mod]
    omega
  · rw [Nat.sub_self, Nat.zero_div]
    by_cases e : (j : Int) = x
    · rw [if_pos e, if_neg (by rw [e]; exact hnd.1)]; rfl
    · rw [if_neg e]
      have : (j : Int) ∈ r := by
        rcases List.mem_cons.1 (hp.symm.subset hj) with h | h
        · exact absurd h e
        · exact h
      rw [if_pos this]; rfl
  · rw [if_neg]
    rintro rfl
    exact hj (hp.subset (by simp))
/-- A further question. -/
theorem RoundInv.next {P rest : List Int} {t : Nat} {asked : Nat → Int} {draw x : Int} {r : List Int} (h : RoundInv P t rest asked) (ht : 1 ≤ t) (hP : P ≠ []) (h8 : P.length ≤ 64) (hn : P.Nodup) (hx : leftNow rest P draw = x :: r) :
    x ∈ P ∧ RoundInv P (t + 1) r (fun j => if (j : Int) = x then asked j + 1 else asked j) := by
  have hl : 0 < P.length := List.length_pos_iff.2 hP
  have hmod := Nat.mod_lt (t - 1) hl
  have hdm := Nat.div_add_mod (t - 1) P.length
  unfold leftNow at hx
  rw [filter_all h.sub] at hx
  cases hr : rest with
  | nil =>
    rw [hr] at hx
    have hx' : shuf P draw = x :: r := hx
    have hp := shuf_mem h8 draw
    rw [hx'] at hp
    have hnd : (x :: r).Nodup := hp.symm.nodup hn
    rw [List.nodup_cons] at hnd
    have hlen := h.len
    rw [hr, List.length_nil] at hlen
    have h1 : (t - 1) % P.length = P.length - 1 := by omega
    have hmul : P.length * ((t - 1) / P.length) + P.length = t := by omega
    have ht0 : t % P.length = 0 := by
      rw [← hmul, Nat.add_mod_right, Nat.mul_mod_right]
    have ht1 : t / P.length = (t - 1) / P.length + 1 := by
      have : t = P.length * ((t - 1) / P.length + 1) := by rw [Nat.mul_add, Nat.mul_one]; exact hmul.symm
      rw [this, Nat.mul_div_cancel_left _ hl]
      rw [← this]
    refine ⟨hp.subset (by simp), fun y hy => hp.subset (by simp [hy]), hnd.2, ?_, fun j hj => ?_, fun j hj => ?_⟩
    · have := hp.length_eq
      rw [List.length_cons] at this
      rw [Nat.add_sub_cancel, ht0]
      omega
    · have hc := h.count j hj
      rw [hr, if_neg (by simp)] at hc
      rw [Nat.add_sub_cancel, ht1]
      by_cases e : (j : Int) = x
      · rw [if_pos e, if_neg (by rw [e]; exact hnd.1), hc]
        omega
      · rw [if_neg e]
        have : (j : Int) ∈ r := by
          rcases List.mem_cons.1 (hp.symm.subset hj) with h | h
          · exact absurd h e
          · exact h
        rw [if_pos this, hc]
        omega
    · rw [if_neg]
      · exact h.none j hj
      · rintro rfl
        exact hj (hp.subset (by simp))
  | cons y s =>
    rw [hr] at hx
    obtain ⟨rfl, rfl⟩ : y = x ∧ s = r := by simpa using hx
    have hnd := h.nodup
    have hsub := h.sub
    have hlen := h.len
    rw [hr] at hnd hsub hlen
    rw [List.nodup_cons] at hnd
    rw [List.length_cons] at hlen
    have h1 : (t - 1) % P.length + 1 < P.length := by omega
    have hmul : P.length * ((t - 1) / P.length) + ((t - 1) % P.length + 1) = t := by omega
    have ht0 : t % P.length = (t - 1) % P.length + 1 := by
      conv => lhs; rw [← hmul]
      rw [Nat.mul_add_mod, Nat.mod_eq_of_lt h1]
    have ht1 : t / P.length = (t - 1) / P.length := by
      conv => lhs; rw [← hmul]
      rw [Nat.mul_add_div hl, Nat.div_eq_of_lt h1, Nat.add_zero]
    refine ⟨hsub y (by simp), fun z hz => hsub z (by simp [hz]), hnd.2, ?_, fun j hj => ?_, fun j hj => ?_⟩
    · rw [Nat.add_sub_cancel, ht0]
      omega
    · have hc := h.count j hj
      rw [hr] at hc
      rw [Nat.add_sub_cancel, ht1]
      by_cases e : (j : Int) = y
      · rw [if_pos e, if_neg (by rw [e]; exact hnd.1), hc, if_pos (by rw [e]; simp)]
        omega
      · rw [if_neg e, hc]
        simp [e]
    · rw [if_neg]
      · exact h.none j hj
      · rintro rfl
        exact hj (hsub _ (by simp))
end
end Go.Proofs.Ytnkchmafofpimaa
