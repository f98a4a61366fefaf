/- WatchApart: a walk by the contracts alone. -/
import Derived.Test.YtcmidomgnbodiaaWatTwo
namespace Go.Proofs.Ytcmidomgnbodiaa
open Go Go.RowKit

theorem cut_after_same {L : List Mo} (h : FineM L) (n t : Int) : cutM (afterSet L ⟨n, t⟩) n = cutM L n := by
  unfold afterSet
  split
  · rename_i hx; exact cut_set_same h hx
  · rfl
theorem cut_after_other {L : List Mo} (h : FineM L) {n t id : Int} (hn : n ≠ id) : cutM (afterSet L ⟨n, t⟩) id = afterSet (cutM L id) ⟨n, t⟩ := by
  unfold afterSet
  split
  · rename_i hx; exact cut_set_other h hx hn
  · rfl
theorem okM_neg (z : Int) : okM ⟨-1, z⟩ = false := by simp [okM]
theorem okM_big (z : Int) : okM ⟨1000, z⟩ = false := by simp [okM]
theorem okM_early (z : Int) : okM ⟨z, -1⟩ = false := by simp [okM]
theorem boxC {W : World} {q : Nat} {d i a : Int} (h : W.heap[q]? = some (.cells #[.int .i64 d, .int .i64 i, .int .i64 a] 30)) : W.cell? ⟨q, 0, none⟩ = some (.int .i64 d) ∧ W.cell? ⟨q, 1, none⟩ = some (.int .i64 i) ∧ W.cell? ⟨q, 2, none⟩ = some (.int .i64 a) := by
  obtain ⟨b, o, he, h0, h1, h2⟩ := cellC (srcE_one (E := elemC) (x := ⟨d, i, a⟩) h rfl).1 (k := 0) rfl
  obtain ⟨rfl, rfl⟩ : q = b ∧ 0 = o := by injection he with h; injection h with h1 h2; exact ⟨h1, h2⟩
  exact ⟨h0, h1, h2⟩
theorem TwoS.less {O1 O2 : OwnT} {w W : World} {m m' : Nat} {L L' : List Mo} {G G' : Nat → Prop} (h : TwoS O1 O2 w m m' L L' G W) (hG : ∀ k, G' k → G k) : TwoS O1 O2 w m m' L L' G' W := by
  obtain ⟨hf, hf', ⟨H, H', ho, ho', ha, hH, hH', hg⟩, hb⟩ := h
  exact ⟨hf, hf', ⟨H, H', ho, ho', ha, hH, hH', fun k hk => hg k (hG k hk)⟩, hb⟩
theorem TwoS.box {O1 O2 : OwnT} {w W : World} {m m' : Nat} {L L' : List Mo} {G : Nat → Prop} (q1 : ∀ m L, Owns (O1 m L)) (q2 : ∀ m L, Owns (O2 m L)) (h : TwoS O1 O2 w m m' L L' G W) (o : Obj) : TwoS O1 O2 w m m' L L' (fun k => G k ∨ k = W.heap.size) (W.alloc o) := by
  obtain ⟨H, ho, hk⟩ := h.step q1 q2 h.fine
  refine (hk (W.alloc o) H ((q1 m L).kept W _ H ho (by simp) fun k hk => Below.heap_alloc _ _ _ ((q1 m L).lt W H ho k hk)) (Fr.of_below (ext_alloc (ext_refl W) o)) (fun k h => .inl h) _ fun k h => ?_).1
  rcases h with h | rfl
  · exact .inl h
  · exact .inr ⟨Nat.le_refl _, by simp, fun h2 => absurd ((q1 m L).lt W H ho _ h2) (Nat.lt_irrefl _)⟩
/-- One clock has had everything, the other everything but this one moment. -/
def ApS (C : WatC) (w : World) (m m' : Nat) (id : Int) (W : World) : Prop := ∃ L, TwoS C.Own C.Own w m m' L (cutM L id) (fun _ => False) W

set_option maxHeartbeats 4000000 in
set_option maxRecDepth 100000 in
theorem apartLawW_any (C : WatC) (v : Value) (l : List MCall) (id z : Int) (w : World) (hv : RowAt elemC w v l) (hl : l.length ≤ 140737488351232) : Gives Try.prog 7 #[v, .int .i64 id, .int .i64 z] w (.bool true) := by
  unfold Gives
  obtain ⟨p, cap, rfl, -⟩ := hv.form
  have HV := Lib.hid hv
  have HAw := Lib.hid (awakeW_any C)
  have HN := Lib.hid (newW_any (C := C) (ext_refl w))
  clear hv
  obtain ⟨n, hn⟩ : ∃ n, l.length = n := ⟨_, rfl⟩
  have HNL := Lib.hid hn
  rw [hn] at hl ⊢
  clear hn
  go_enter Try.func7, Try.ntmps7
  by_cases hb : 60 < n
  · have hd : decide ((60 : Int) < (n : Int)) = true := by rw [decide_eq_true_eq]; omega
    go_wp2_with fail
    refine Gives.mono' (HAw.out _) ?_
    intro x
    go_wp2_with fail
    go_ret
    exact ⟨rfl, Later.ex x.below⟩
  · have hd : decide ((60 : Int) < (n : Int)) = false := by rw [decide_eq_false_iff_not]; omega
    go_wp2_with fail
    refine HN.out.mono ?_
    rintro e w1 ⟨m, rfl, hs⟩
    have H1 := Lib.hid (new_two hs)
    clear hs HN
    go_wp2_with fail
    refine H1.out.mono ?_
    rintro e w2 ⟨m', rfl, hs⟩
    have HS : Hid (ApS C w m m' id w2) := Lib.hid ⟨[], hs⟩
    clear hs H1
    go_wp2_with fail
    go_loopw [25] (fun v25 wr => ∃ k : Nat, k ≤ n ∧ v25 = .int .i64 k ∧ Hid (ApS C w m m' id wr)) (fun v25 _ => n - (intOf v25).toNat)
    case atStart => exact ⟨0, by omega, rfl, HS⟩
    case round =>
      obtain ⟨k, hk, rfl, HA⟩ := hrel
      clear HS
      by_cases hkl : k < n
      · obtain ⟨c, hkc⟩ : ∃ c, l[k]? = some c := ⟨_, List.getElem?_eq_getElem (by have := HNL.out; omega)⟩
        obtain ⟨L, hs⟩ := HA.out
        obtain ⟨b, o, rfl, a0, a1, a2⟩ := cellC (HV.out.below hs.below) hkc
        have HS0 := Lib.hid hs
        obtain ⟨cd, cn, ct⟩ := c
        dsimp only at a0 a1 a2
        clear hs HA hkc
        go_upto_region 7 with fail
        have hTA := HS0.out.box C.owns C.owns (.cells #[.int .i64 cd, .int .i64 cn, .int .i64 ct] 30)
        have hbox : (wr.alloc (.cells #[.int .i64 cd, .int .i64 cn, .int .i64 ct] 30)).heap[wr.heap.size]? = some (.cells #[.int .i64 cd, .int .i64 cn, .int .i64 ct] 30) := heap_alloc_new wr _
        obtain ⟨W3, hW3⟩ : ∃ W, wr.alloc (.cells #[.int .i64 cd, .int .i64 cn, .int .i64 ct] 30) = W := ⟨_, rfl⟩
        obtain ⟨q, hq⟩ : ∃ q, wr.heap.size = q := ⟨_, rfl⟩
        rw [hW3] at hTA hbox ⊢
        rw [hq] at hTA hbox ⊢
        clear hW3 hq a0 a1 a2 HS0
        obtain ⟨b0, b1, b2⟩ := boxC hbox
        have HB := Lib.hid hbox
        have HF := Lib.hid hTA.fine
        have H1 := Lib.hid (set_two C.owns hTA cn ct)
        clear hTA hbox
        go_wp2_with fail
        refine H1.out.mono ?_
        rintro e w4 ⟨rfl, hs, hkp⟩
        obtain ⟨d0, d1, d2⟩ := boxC ((hkp.block (.inr rfl)).trans HB.out)
        have HS4 := Lib.hid hs
        clear hs hkp H1 b0 b1 b2 HB
        by_cases hcn : cn = id
        · subst hcn
          go_wp2_with fail
          go_roundw
          case rel => exact ⟨k + 1, by omega, by go_num, Lib.hid ⟨_, by rw [cut_after_same HF.out]; exact HS4.out.less fun _ h => h.elim⟩⟩
          case measure => simp [intOf]; omega
        · have hne : (cn == id) = false := by rw [beq_eq_false_iff_ne]; exact hcn
          have H2 := Lib.hid (set_two C.owns HS4.out.swap cn ct)
          go_wp2_with fail
          refine H2.out.mono ?_
          rintro e w5 ⟨rfl, hs, hkp⟩
          have HS5 := Lib.hid hs
          clear hs hkp H2
          go_wp2_with fail
          go_roundw
          case rel => exact ⟨k + 1, by omega, by go_num, Lib.hid ⟨_, by rw [cut_after_other HF.out hcn]; exact HS5.out.swap.less fun _ h => h.elim⟩⟩
          case measure => simp [intOf]; omega
      · obtain rfl : k = n := by omega
        obtain ⟨L, hs⟩ := HA.out
        have HF := Lib.hid hs.fine
        have H1 := Lib.hid (set_two C.owns hs id z)
        clear hs HA
        go_wp2_with fail
        refine H1.out.mono ?_
        rintro e w4 ⟨rfl, hs, -⟩
        have H2 := Lib.hid (cut_two C.owns hs id)
        clear hs H1
        go_wp2_with fail
        refine H2.out.mono ?_
        rintro e w5 ⟨rfl, hs, -⟩
        rw [cut_after_same HF.out] at hs
        obtain ⟨B, hB⟩ : ∃ B, cutM L id = B := ⟨_, rfl⟩
        rw [hB] at hs
        have HS := Lib.hid hs
        clear hs H2 HF hB
        go_wp2_with fail
        go_loopw [55] (fun v55 wz => ∃ r : Nat, v55 = .int .i64 r ∧ r ≤ k ∧ ∃ x : Later w5, wz = x.w) (fun v55 _ => k - (intOf v55).toNat)
        case atStart => exact ⟨0, rfl, by omega, ⟨w5, Below.refl _ _⟩, rfl⟩
        case round =>
          obtain ⟨r, rfl, hr, x, rfl⟩ := hrel
          by_cases hrk : r < k
          · obtain ⟨c, hkc⟩ : ∃ c, l[r]? = some c := ⟨_, List.getElem?_eq_getElem (by have := HNL.out; omega)⟩
            obtain ⟨b, o, rfl, a0, a1, a2⟩ := cellC (HV.out.below (below_later HS.out.below HS.out.below.size x)) hkc
            obtain ⟨cd, cn, ct⟩ := c
            dsimp only at a0 a1 a2
            clear hkc
            go_upto_region 16 with fail
            have hbox : (x.w.alloc (.cells #[.int .i64 cd, .int .i64 cn, .int .i64 ct] 30)).heap[x.w.heap.size]? = some (.cells #[.int .i64 cd, .int .i64 cn, .int .i64 ct] 30) := heap_alloc_new x.w _
            obtain ⟨y, hy⟩ : ∃ y : Later w5, y.w = x.w.alloc (.cells #[.int .i64 cd, .int .i64 cn, .int .i64 ct] 30) := ⟨⟨_, ext_alloc x.below _⟩, rfl⟩
            obtain ⟨q, hq⟩ : ∃ q, x.w.heap.size = q := ⟨_, rfl⟩
            rw [← hy] at hbox ⊢
            rw [hq] at hbox ⊢
            clear hy hq a0 a1 a2
            obtain ⟨b0, b1, b2⟩ := boxC hbox
            have HB := Lib.hid hbox
            have H1 := Lib.hid (at_two (HS.out.later C.owns C.owns y) cn)
            have H2 : Hid (∀ y : Later w5, Gives Try.prog 17 #[.pointer (some ⟨m', 0, none⟩), .int .i64 cn] y.w (atV (hasM B cn))) := Lib.hid fun y => at_two (HS.out.later C.owns C.owns y).swap cn
            clear hbox
            obtain ⟨h, hh⟩ : ∃ h, hasM B cn = h := ⟨_, rfl⟩
            rw [hh] at H1 H2
            clear hh
            cases h with
            | none =>
              unfold atV at H1 H2
              go_wp2_with fail
              refine Gives.mono' H1.out ?_
              intro x1
              obtain ⟨d0, d1, d2⟩ := boxC ((x1.below.block q (Array.getElem?_eq_some_iff.1 HB.out).1).trans HB.out)
              obtain ⟨y1, hy1⟩ : ∃ y1 : Later w5, y1.w = x1.w := ⟨⟨_, below_later y.below y.below.size x1⟩, rfl⟩
              rw [← hy1] at d0 d1 d2 ⊢
              clear hy1 b0 b1 b2 HB
              go_wp2_with fail
              refine Gives.on (H2.out y1) ?_
              intro y2
              go_wp2_with fail
              go_roundw
              case rel => exact ⟨r + 1, by go_num, by omega, y2, rfl⟩
              case measure => simp [intOf]; omega
            | some u =>
              unfold atV at H1 H2
              go_wp2_with fail
              refine Gives.mono' H1.out ?_
              intro x1
              obtain ⟨d0, d1, d2⟩ := boxC ((x1.below.block q (Array.getElem?_eq_some_iff.1 HB.out).1).trans HB.out)
              obtain ⟨y1, hy1⟩ : ∃ y1 : Later w5, y1.w = x1.w := ⟨⟨_, below_later y.below y.below.size x1⟩, rfl⟩
              rw [← hy1] at d0 d1 d2 ⊢
              clear hy1 b0 b1 b2 HB
              go_wp2_with fail
              refine Gives.on (H2.out y1) ?_
              intro y2
              go_wp2_with fail
              go_roundw
              case rel => exact ⟨r + 1, by go_num, by omega, y2, rfl⟩
              case measure => simp [intOf]; omega
          · go_wp2_with fail
            refine Gives.on (len_two (HS.out.later C.owns C.owns x)) ?_
            intro y1
            go_wp2_with fail
            refine Gives.on (len_two (HS.out.later C.owns C.owns y1).swap) ?_
            intro y2
            have h1 := set_two C.owns (HS.out.later C.owns C.owns y2) (-1) z
            unfold SetT at h1
            rw [okM_neg z, show afterSet B ⟨-1, z⟩ = B from by unfold afterSet; rw [okM_neg z]; rfl] at h1
            have H3 := Lib.hid h1
            clear h1
            go_wp2_with fail
            refine H3.out.mono ?_
            rintro e w6 ⟨rfl, hs, -⟩
            have h1 := set_two C.owns hs 1000 z
            unfold SetT at h1
            rw [okM_big z, show afterSet B ⟨1000, z⟩ = B from by unfold afterSet; rw [okM_big z]; rfl] at h1
            have H4 := Lib.hid h1
            clear h1 hs H3
            go_wp2_with fail
            refine H4.out.mono ?_
            rintro e w7 ⟨rfl, hs, -⟩
            have h1 := set_two C.owns hs id (-1)
            unfold SetT at h1
            rw [okM_early id, show afterSet B ⟨id, -1⟩ = B from by unfold afterSet; rw [okM_early id]; rfl] at h1
            have H5 := Lib.hid h1
            clear h1 hs H4
            go_wp2_with fail
            refine H5.out.mono ?_
            rintro e w8 ⟨rfl, hs, -⟩
            have h1 := due_two C.owns hs 1099511627776
            unfold DueT at h1
            rw [(due_top hs.fine).1, (due_top hs.fine).2] at h1
            have hlen : (B.map Mo.n).length ≤ 1000 := by rw [List.length_map]; exact hs.fine.len
            obtain ⟨N, hN⟩ : ∃ N, B.map Mo.n = N := ⟨_, rfl⟩
            rw [hN] at h1 hlen
            have HNN := Lib.hid hN
            have HLen := Lib.hid hlen
            clear hN hlen
            have H6 := Lib.hid h1
            clear h1 hs H5
            go_wp2_with fail
            refine H6.out.mono ?_
            rintro e w9 ⟨p1, c1, rfl, hrow, hs, -⟩
            have h1 := due_two C.owns hs.swap 1099511627776
            unfold DueT at h1
            rw [(due_top hs.fine').1, (due_top hs.fine').2, HNN.out] at h1
            have H7 := Lib.hid h1
            have HRow := Lib.hid hrow
            clear h1 hs hrow H6
            go_wp2_with fail
            refine H7.out.mono ?_
            rintro e w10 ⟨p2, c2, rfl, hrow, hs, hk⟩
            have HSame := Lib.hid (sameW_any (.slice p1 N.length c1) (.slice p2 N.length c2) N w10 (rowAt_own (E := elemI) (row_keepsE HRow.out fun g hg => hk.block (.inr hg))) (rowAt_own (E := elemI) hrow) (by have := HLen.out; omega))
            have HBl := Lib.hid hs.below
            clear hs hrow hk H7
            go_wp2_with fail
            refine Gives.mono' HSame.out ?_
            intro x8
            go_wp2_with fail
            refine Gives.mono' (HAw.out _) ?_
            intro x9
            go_wp2_with fail
            go_ret
            exact ⟨rfl, Later.ex (below_later (below_later HBl.out HBl.out.size x8) (Nat.le_trans HBl.out.size x8.below.size) x9)⟩
end Go.Proofs.Ytcmidomgnbodiaa
