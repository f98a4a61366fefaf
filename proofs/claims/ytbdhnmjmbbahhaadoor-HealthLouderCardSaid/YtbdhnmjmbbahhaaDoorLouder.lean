/- HealthLouder's walk: the louder one is one of the two, and neither is above it; in whatever order. -/
import Derived.Test.YtbdhnmjmbbahhaaDoorLouderLib
namespace Go.Proofs.YtbdhnmjmbbahhaaDoor
open Go Go.RowKit

set_option maxHeartbeats 40000000 in
set_option maxRecDepth 100000 in
theorem louder_walk (n1 i1 h1 n2 i2 h2 n3 i3 h3 x0 x1 x2 y0 y1 y2 z0 z1 z2 u0 u1 u2 v0 v1 v2 c1 c2 : Int) (w : World) (ht : Tab w)
    (L12 : ∀ w, Gives Tryd.prog 15 #[.agg #[.int .i64 n1, .int .i64 i1, .int .i64 h1], .agg #[.int .i64 n2, .int .i64 i2, .int .i64 h2]] w (.agg #[.int .i64 x0, .int .i64 x1, .int .i64 x2])) (L21 : ∀ w, Gives Tryd.prog 15 #[.agg #[.int .i64 n2, .int .i64 i2, .int .i64 h2], .agg #[.int .i64 n1, .int .i64 i1, .int .i64 h1]] w (.agg #[.int .i64 y0, .int .i64 y1, .int .i64 y2])) (LXC : ∀ w, Gives Tryd.prog 15 #[.agg #[.int .i64 x0, .int .i64 x1, .int .i64 x2], .agg #[.int .i64 n3, .int .i64 i3, .int .i64 h3]] w (.agg #[.int .i64 u0, .int .i64 u1, .int .i64 u2])) (L23 : ∀ w, Gives Tryd.prog 15 #[.agg #[.int .i64 n2, .int .i64 i2, .int .i64 h2], .agg #[.int .i64 n3, .int .i64 i3, .int .i64 h3]] w (.agg #[.int .i64 z0, .int .i64 z1, .int .i64 z2])) (LAZ : ∀ w, Gives Tryd.prog 15 #[.agg #[.int .i64 n1, .int .i64 i1, .int .i64 h1], .agg #[.int .i64 z0, .int .i64 z1, .int .i64 z2]] w (.agg #[.int .i64 v0, .int .i64 v1, .int .i64 v2])) (LAA : ∀ w, Gives Tryd.prog 15 #[.agg #[.int .i64 n1, .int .i64 i1, .int .i64 h1], .agg #[.int .i64 n1, .int .i64 i1, .int .i64 h1]] w (.agg #[.int .i64 n1, .int .i64 i1, .int .i64 h1]))
    (CXA : ∀ w, Gives Tryd.prog 14 #[.agg #[.int .i64 x0, .int .i64 x1, .int .i64 x2], .agg #[.int .i64 n1, .int .i64 i1, .int .i64 h1]] w (.int .i64 c1)) (CXB : ∀ w, Gives Tryd.prog 14 #[.agg #[.int .i64 x0, .int .i64 x1, .int .i64 x2], .agg #[.int .i64 n2, .int .i64 i2, .int .i64 h2]] w (.int .i64 c2)) (CXY : ∀ w, Gives Tryd.prog 14 #[.agg #[.int .i64 x0, .int .i64 x1, .int .i64 x2], .agg #[.int .i64 y0, .int .i64 y1, .int .i64 y2]] w (.int .i64 0)) (CUV : ∀ w, Gives Tryd.prog 14 #[.agg #[.int .i64 u0, .int .i64 u1, .int .i64 u2], .agg #[.int .i64 v0, .int .i64 v1, .int .i64 v2]] w (.int .i64 0)) (hc1 : 0 ≤ c1) (hc2 : 0 ≤ c2)
    (hq : (n1 = x0 ∧ i1 = x1 ∧ h1 = x2) ∨ (x0 = n2 ∧ x1 = i2 ∧ x2 = h2 ∧ (x0 ≠ n1 ∨ (x0 = n1 ∧ x1 ≠ i1) ∨ (x0 = n1 ∧ x1 = i1 ∧ x2 ≠ h1)))) : Gives Tryd.prog 6 #[.agg #[.int .i64 n1, .int .i64 i1, .int .i64 h1], .agg #[.int .i64 n2, .int .i64 i2, .int .i64 h2], .agg #[.int .i64 n3, .int .i64 i3, .int .i64 h3]] w (.bool true) := by
  unfold Gives
  have HT := Lib.hid ht
  have H12 := Lib.hid L12
  have H21 := Lib.hid L21
  have HXC := Lib.hid LXC
  have H23 := Lib.hid L23
  have HAZ := Lib.hid LAZ
  have HAA := Lib.hid LAA
  have HXA := Lib.hid CXA
  have HXB := Lib.hid CXB
  have HXY := Lib.hid CXY
  have HUV := Lib.hid CUV
  have HQ := Lib.hid hq
  have HA : Hid (∀ w, Tab w → Gives Tryd.prog 18 #[] w (.bool true)) := Lib.hid awake_any
  clear L12 L21 LXC L23 LAZ LAA CXA CXB CXY CUV hq ht
  have K1 : ClaimIn (((w.alloc (Obj.cells #[.int .i64 n1, .int .i64 i1, .int .i64 h1] 23)).alloc (Obj.cells #[.int .i64 n2, .int .i64 i2, .int .i64 h2] 23)).alloc (Obj.cells #[.int .i64 n3, .int .i64 i3, .int .i64 h3] 23)) (w.heap.size) n1 i1 h1 := ⟨by simp [go_sem], by simp [go_sem], by simp [go_sem]⟩
  have K2 : ClaimIn (((w.alloc (Obj.cells #[.int .i64 n1, .int .i64 i1, .int .i64 h1] 23)).alloc (Obj.cells #[.int .i64 n2, .int .i64 i2, .int .i64 h2] 23)).alloc (Obj.cells #[.int .i64 n3, .int .i64 i3, .int .i64 h3] 23)) (w.heap.size + 1) n2 i2 h2 := ⟨by simp [go_sem], by simp [go_sem], by simp [go_sem]⟩
  have K3 : ClaimIn (((w.alloc (Obj.cells #[.int .i64 n1, .int .i64 i1, .int .i64 h1] 23)).alloc (Obj.cells #[.int .i64 n2, .int .i64 i2, .int .i64 h2] 23)).alloc (Obj.cells #[.int .i64 n3, .int .i64 i3, .int .i64 h3] 23)) (w.heap.size + 1 + 1) n3 i3 h3 := ⟨by simp [go_sem], by simp [go_sem], by simp [go_sem]⟩
  go_enter Tryd.func6, Tryd.ntmps6
  go_upto_region 1 with fail
  go_cut [7, 8] (fun s7 s8 wx => TwoNew w (fun wx => ClaimIn wx w.heap.size n1 i1 h1 ∧ ClaimIn wx (w.heap.size + 1) n2 i2 h2 ∧ ClaimIn wx (w.heap.size + 1 + 1) n3 i3 h3) x0 x1 x2 y0 y1 y2 s7 s8 wx)
  case first =>
    go_region_held3 (fun w' => w'.cell? ⟨w.heap.size, 0, none⟩ = some (.int .i64 n1) ∧ w'.cell? ⟨w.heap.size, 1, none⟩ = some (.int .i64 i1) ∧ w'.cell? ⟨w.heap.size, 2, none⟩ = some (.int .i64 h1) ∧ w'.cell? ⟨w.heap.size + 1, 0, none⟩ = some (.int .i64 n2) ∧ w'.cell? ⟨w.heap.size + 1, 1, none⟩ = some (.int .i64 i2) ∧ w'.cell? ⟨w.heap.size + 1, 2, none⟩ = some (.int .i64 h2))
      ((refine six_of ?_ ?_ <;> (repeat (first | (with_reducible exact K1) | (with_reducible exact K2) | (with_reducible apply ClaimIn.later) | (with_reducible apply ClaimIn.alloc) | (with_reducible apply ClaimIn.drew) | ((with_reducible apply ClaimIn.set); (case hne => (first | omega | ((with_reducible refine Nat.ne_of_gt ?_); (repeat (first | (with_reducible exact K1.lt) | (with_reducible exact K2.lt) | (with_reducible refine lt_later ?_ _) | ((with_reducible refine lt_new ?hb _); (case hb => (first | (with_reducible rfl) | (simp; done) | omega))) | (with_reducible refine lt_alloc ?_ _) | (with_reducible refine lt_drew ?_))); done) | ((with_reducible refine Nat.ne_of_gt (Nat.lt_succ_of_lt ?_)); (repeat (first | (with_reducible exact K1.lt) | (with_reducible exact K2.lt) | (with_reducible refine lt_later ?_ _) | ((with_reducible refine lt_new ?hb _); (case hb => (first | (with_reducible rfl) | (simp; done) | omega))) | (with_reducible refine lt_alloc ?_ _) | (with_reducible refine lt_drew ?_))); done) | ((with_reducible refine Nat.ne_of_lt ?_); (repeat (first | (with_reducible exact K1.lt) | (with_reducible exact K2.lt) | (with_reducible refine lt_later ?_ _) | ((with_reducible refine lt_new ?hb _); (case hb => (first | (with_reducible rfl) | (simp; done) | omega))) | (with_reducible refine lt_alloc ?_ _) | (with_reducible refine lt_drew ?_))); done) | ((with_reducible refine Nat.ne_of_lt (Nat.lt_succ_of_lt ?_)); (repeat (first | (with_reducible exact K1.lt) | (with_reducible exact K2.lt) | (with_reducible refine lt_later ?_ _) | ((with_reducible refine lt_new ?hb _); (case hb => (first | (with_reducible rfl) | (simp; done) | omega))) | (with_reducible refine lt_alloc ?_ _) | (with_reducible refine lt_drew ?_))); done))))))))
      (first | ((go_at_call 15; (first | (with_reducible refine Gives.on (H12.out _) ?_) | (with_reducible refine Gives.on (H21.out _) ?_) | (with_reducible refine Gives.mono' (H12.out _) ?_) | (with_reducible refine Gives.mono' (H21.out _) ?_)); intro x)))
    all_goals
      go_wp2_with fail
      go_meet
      refine ⟨_, _, rfl, rfl, ?_, ?_, ⟨?_, ?_, ?_⟩, ?hB⟩
      case hB => repeat (first | (with_reducible exact ext_refl _) | (with_reducible refine ext_alloc ?_ _) | (with_reducible refine ext_later ?_ _) | (with_reducible refine ext_drew ?_) | ((with_reducible refine ext_setCell ?_ _ _ ?hs); (case hs => (dsimp only; first | omega | ((with_reducible refine Nat.le_of_lt ?_); (repeat (first | (with_reducible exact K1.lt) | (with_reducible refine lt_later ?_ _) | ((with_reducible refine lt_new ?hb _); (case hb => (first | (with_reducible rfl) | (simp; done) | omega))) | (with_reducible refine lt_alloc ?_ _) | (with_reducible refine lt_drew ?_))); done) | ((with_reducible refine Nat.le_of_lt (Nat.lt_succ_of_lt ?_)); (repeat (first | (with_reducible exact K1.lt) | (with_reducible refine lt_later ?_ _) | ((with_reducible refine lt_new ?hb _); (case hb => (first | (with_reducible rfl) | (simp; done) | omega))) | (with_reducible refine lt_alloc ?_ _) | (with_reducible refine lt_drew ?_))); done)))))
      all_goals (repeat (first | (with_reducible exact K1) | (with_reducible exact K2) | (with_reducible exact K3) | (with_reducible apply ClaimIn.later) | ((with_reducible refine ClaimIn.new _ ?hb); (case hb => (first | (with_reducible rfl) | (simp; done) | omega))) | (with_reducible apply ClaimIn.alloc) | (with_reducible apply ClaimIn.drew) | (with_reducible apply ClaimIn.put) | ((with_reducible apply ClaimIn.set); (case hne => (first | omega | ((with_reducible refine Nat.ne_of_gt ?_); (repeat (first | (with_reducible exact K1.lt) | (with_reducible exact K2.lt) | (with_reducible exact K3.lt) | (with_reducible refine lt_later ?_ _) | ((with_reducible refine lt_new ?hb _); (case hb => (first | (with_reducible rfl) | (simp; done) | omega))) | (with_reducible refine lt_alloc ?_ _) | (with_reducible refine lt_drew ?_))); done) | ((with_reducible refine Nat.ne_of_gt (Nat.lt_succ_of_lt ?_)); (repeat (first | (with_reducible exact K1.lt) | (with_reducible exact K2.lt) | (with_reducible exact K3.lt) | (with_reducible refine lt_later ?_ _) | ((with_reducible refine lt_new ?hb _); (case hb => (first | (with_reducible rfl) | (simp; done) | omega))) | (with_reducible refine lt_alloc ?_ _) | (with_reducible refine lt_drew ?_))); done) | ((with_reducible refine Nat.ne_of_lt ?_); (repeat (first | (with_reducible exact K1.lt) | (with_reducible exact K2.lt) | (with_reducible exact K3.lt) | (with_reducible refine lt_later ?_ _) | ((with_reducible refine lt_new ?hb _); (case hb => (first | (with_reducible rfl) | (simp; done) | omega))) | (with_reducible refine lt_alloc ?_ _) | (with_reducible refine lt_drew ?_))); done) | ((with_reducible refine Nat.ne_of_lt (Nat.lt_succ_of_lt ?_)); (repeat (first | (with_reducible exact K1.lt) | (with_reducible exact K2.lt) | (with_reducible exact K3.lt) | (with_reducible refine lt_later ?_ _) | ((with_reducible refine lt_new ?hb _); (case hb => (first | (with_reducible rfl) | (simp; done) | omega))) | (with_reducible refine lt_alloc ?_ _) | (with_reducible refine lt_drew ?_))); done))))))
  case rest =>
    obtain ⟨g, k, rfl, rfl, X, Y, ⟨A, B, C⟩, hb⟩ := hcut
    go_upto_region 2 with fail
    go_cut [9, 10] (fun s9 s10 wx => TwoNew w (fun wx => ClaimIn wx w.heap.size n1 i1 h1 ∧ ClaimIn wx (w.heap.size + 1) n2 i2 h2 ∧ ClaimIn wx g x0 x1 x2 ∧ ClaimIn wx k y0 y1 y2) u0 u1 u2 v0 v1 v2 s9 s10 wx)
    case first =>
      go_region_held3 (fun w' => w'.cell? ⟨w.heap.size, 0, none⟩ = some (.int .i64 n1) ∧ w'.cell? ⟨w.heap.size, 1, none⟩ = some (.int .i64 i1) ∧ w'.cell? ⟨w.heap.size, 2, none⟩ = some (.int .i64 h1) ∧ w'.cell? ⟨w.heap.size + 1, 0, none⟩ = some (.int .i64 n2) ∧ w'.cell? ⟨w.heap.size + 1, 1, none⟩ = some (.int .i64 i2) ∧ w'.cell? ⟨w.heap.size + 1, 2, none⟩ = some (.int .i64 h2) ∧ w'.cell? ⟨w.heap.size + 1 + 1, 0, none⟩ = some (.int .i64 n3) ∧ w'.cell? ⟨w.heap.size + 1 + 1, 1, none⟩ = some (.int .i64 i3) ∧ w'.cell? ⟨w.heap.size + 1 + 1, 2, none⟩ = some (.int .i64 h3))
        ((refine nine_of ?_ ?_ ?_ <;> (repeat (first | (with_reducible exact A) | (with_reducible exact B) | (with_reducible exact C) | (with_reducible apply ClaimIn.later) | (with_reducible apply ClaimIn.alloc) | (with_reducible apply ClaimIn.drew) | ((with_reducible apply ClaimIn.set); (case hne => (first | omega | ((with_reducible refine Nat.ne_of_gt ?_); (repeat (first | (with_reducible exact A.lt) | (with_reducible exact B.lt) | (with_reducible exact C.lt) | (with_reducible refine lt_later ?_ _) | ((with_reducible refine lt_new ?hb _); (case hb => (first | (with_reducible rfl) | (simp; done) | omega))) | (with_reducible refine lt_alloc ?_ _) | (with_reducible refine lt_drew ?_))); done) | ((with_reducible refine Nat.ne_of_gt (Nat.lt_succ_of_lt ?_)); (repeat (first | (with_reducible exact A.lt) | (with_reducible exact B.lt) | (with_reducible exact C.lt) | (with_reducible refine lt_later ?_ _) | ((with_reducible refine lt_new ?hb _); (case hb => (first | (with_reducible rfl) | (simp; done) | omega))) | (with_reducible refine lt_alloc ?_ _) | (with_reducible refine lt_drew ?_))); done) | ((with_reducible refine Nat.ne_of_lt ?_); (repeat (first | (with_reducible exact A.lt) | (with_reducible exact B.lt) | (with_reducible exact C.lt) | (with_reducible refine lt_later ?_ _) | ((with_reducible refine lt_new ?hb _); (case hb => (first | (with_reducible rfl) | (simp; done) | omega))) | (with_reducible refine lt_alloc ?_ _) | (with_reducible refine lt_drew ?_))); done) | ((with_reducible refine Nat.ne_of_lt (Nat.lt_succ_of_lt ?_)); (repeat (first | (with_reducible exact A.lt) | (with_reducible exact B.lt) | (with_reducible exact C.lt) | (with_reducible refine lt_later ?_ _) | ((with_reducible refine lt_new ?hb _); (case hb => (first | (with_reducible rfl) | (simp; done) | omega))) | (with_reducible refine lt_alloc ?_ _) | (with_reducible refine lt_drew ?_))); done))))))))
        (first | ((go_at_call 15; (first | (with_reducible refine Gives.on (H12.out _) ?_) | (with_reducible refine Gives.on (HXC.out _) ?_) | (with_reducible refine Gives.on (H23.out _) ?_) | (with_reducible refine Gives.on (HAZ.out _) ?_) | (with_reducible refine Gives.mono' (H12.out _) ?_) | (with_reducible refine Gives.mono' (HXC.out _) ?_) | (with_reducible refine Gives.mono' (H23.out _) ?_) | (with_reducible refine Gives.mono' (HAZ.out _) ?_)); intro x)))
      all_goals
        go_wp2_with fail
        go_meet
        refine ⟨_, _, rfl, rfl, ?_, ?_, ⟨?_, ?_, ?_, ?_⟩, ?hB⟩
        case hB => repeat (first | (with_reducible exact hb) | (with_reducible refine ext_alloc ?_ _) | (with_reducible refine ext_later ?_ _) | (with_reducible refine ext_drew ?_) | ((with_reducible refine ext_setCell ?_ _ _ ?hs); (case hs => (dsimp only; first | omega | ((with_reducible refine Nat.le_of_lt ?_); (repeat (first | (with_reducible exact A.lt) | (with_reducible refine lt_later ?_ _) | ((with_reducible refine lt_new ?hb _); (case hb => (first | (with_reducible rfl) | (simp; done) | omega))) | (with_reducible refine lt_alloc ?_ _) | (with_reducible refine lt_drew ?_))); done) | ((with_reducible refine Nat.le_of_lt (Nat.lt_succ_of_lt ?_)); (repeat (first | (with_reducible exact A.lt) | (with_reducible refine lt_later ?_ _) | ((with_reducible refine lt_new ?hb _); (case hb => (first | (with_reducible rfl) | (simp; done) | omega))) | (with_reducible refine lt_alloc ?_ _) | (with_reducible refine lt_drew ?_))); done)))))
        all_goals (repeat (first | (with_reducible exact A) | (with_reducible exact B) | (with_reducible exact C) | (with_reducible exact X) | (with_reducible exact Y) | (with_reducible apply ClaimIn.later) | ((with_reducible refine ClaimIn.new _ ?hb); (case hb => (first | (with_reducible rfl) | (simp; done) | omega))) | (with_reducible apply ClaimIn.alloc) | (with_reducible apply ClaimIn.drew) | (with_reducible apply ClaimIn.put) | ((with_reducible apply ClaimIn.set); (case hne => (first | omega | ((with_reducible refine Nat.ne_of_gt ?_); (repeat (first | (with_reducible exact A.lt) | (with_reducible exact B.lt) | (with_reducible exact C.lt) | (with_reducible exact X.lt) | (with_reducible exact Y.lt) | (with_reducible refine lt_later ?_ _) | ((with_reducible refine lt_new ?hb _); (case hb => (first | (with_reducible rfl) | (simp; done) | omega))) | (with_reducible refine lt_alloc ?_ _) | (with_reducible refine lt_drew ?_))); done) | ((with_reducible refine Nat.ne_of_gt (Nat.lt_succ_of_lt ?_)); (repeat (first | (with_reducible exact A.lt) | (with_reducible exact B.lt) | (with_reducible exact C.lt) | (with_reducible exact X.lt) | (with_reducible exact Y.lt) | (with_reducible refine lt_later ?_ _) | ((with_reducible refine lt_new ?hb _); (case hb => (first | (with_reducible rfl) | (simp; done) | omega))) | (with_reducible refine lt_alloc ?_ _) | (with_reducible refine lt_drew ?_))); done) | ((with_reducible refine Nat.ne_of_lt ?_); (repeat (first | (with_reducible exact A.lt) | (with_reducible exact B.lt) | (with_reducible exact C.lt) | (with_reducible exact X.lt) | (with_reducible exact Y.lt) | (with_reducible refine lt_later ?_ _) | ((with_reducible refine lt_new ?hb _); (case hb => (first | (with_reducible rfl) | (simp; done) | omega))) | (with_reducible refine lt_alloc ?_ _) | (with_reducible refine lt_drew ?_))); done) | ((with_reducible refine Nat.ne_of_lt (Nat.lt_succ_of_lt ?_)); (repeat (first | (with_reducible exact A.lt) | (with_reducible exact B.lt) | (with_reducible exact C.lt) | (with_reducible exact X.lt) | (with_reducible exact Y.lt) | (with_reducible refine lt_later ?_ _) | ((with_reducible refine lt_new ?hb _); (case hb => (first | (with_reducible rfl) | (simp; done) | omega))) | (with_reducible refine lt_alloc ?_ _) | (with_reducible refine lt_drew ?_))); done))))))
    case rest =>
      obtain ⟨g2, k2, rfl, rfl, U, V, ⟨A2, B2, X2, Y2⟩, hb2⟩ := hcut
      clear A B C X Y hb K1 K2 K3
      go_upto_region 3 with fail
      have l1 := A2.lt
      have l2 := B2.lt
      have l3 := X2.lt
      have l4 := Y2.lt
      have l5 := U.lt
      have l6 := V.lt
      obtain ⟨a0, a1, a2⟩ := A2
      obtain ⟨b0, b1, b2⟩ := B2
      obtain ⟨p0, p1, p2⟩ := X2
      obtain ⟨r0, r1, r2⟩ := Y2
      obtain ⟨s0, s1, s2⟩ := U
      obtain ⟨t0, t1, t2⟩ := V
      have hq := HQ.out
      clear HQ
      rcases hq with ⟨rfl, rfl, rfl⟩ | ⟨q0, q1, q2, q3⟩
      · refine wp_region_later (by kernel_rfl) (by kernel_rfl) ?_
        repeat (go_big_quiet_step (first | (go_at_call 14; with_reducible exact later_of (HXA.out _)) | (go_at_call 14; with_reducible exact later_of (HXB.out _)) | (go_at_call 14; with_reducible exact later_of (HXY.out _)) | (go_at_call 14; with_reducible exact later_of (HUV.out _)) | (go_at_call 15; with_reducible exact later_of (HAA.out _)) | (go_at_call 18; with_reducible exact later_of (HA.out _ (HT.out.later (by repeat (first | (with_reducible exact hb2) | (with_reducible refine ext_later ?_ _) | (with_reducible refine ext_drew ?_))))))))
        refine wpQuiet_nil ?_
        rintro _ ⟨x9, rfl⟩
        go_wp2
        all_goals (go_ret; exact ⟨by first | rfl | (simp; omega), Later.ex (by repeat (first | (with_reducible exact hb2) | (with_reducible refine ext_later ?_ _) | (with_reducible refine ext_drew ?_)))⟩)
      · rcases q3 with q3 | ⟨q3, q4⟩ | ⟨q3, q4, q5⟩
        all_goals
          try have e3 : ((x0 : Int) == n1) = false := beq_eq_false_iff_ne.2 q3
          try have e3 : ((x0 : Int) == n1) = true := beq_iff_eq.2 q3
          try have e4 : ((x1 : Int) == i1) = false := beq_eq_false_iff_ne.2 q4
          try have e4 : ((x1 : Int) == i1) = true := beq_iff_eq.2 q4
          try have e5 : ((x2 : Int) == h1) = false := beq_eq_false_iff_ne.2 q5
          have f3 : ((x0 : Int) == n2) = true := beq_iff_eq.2 q0
          have f4 : ((x1 : Int) == i2) = true := beq_iff_eq.2 q1
          have f5 : ((x2 : Int) == h2) = true := beq_iff_eq.2 q2
          clear q0 q1 q2
          try clear q3 q4 q5
          try clear q3 q4
          try clear q3
          refine wp_region_later (by kernel_rfl) (by kernel_rfl) ?_
          repeat (go_big_quiet_step (first | (go_at_call 14; with_reducible exact later_of (HXA.out _)) | (go_at_call 14; with_reducible exact later_of (HXB.out _)) | (go_at_call 14; with_reducible exact later_of (HXY.out _)) | (go_at_call 14; with_reducible exact later_of (HUV.out _)) | (go_at_call 15; with_reducible exact later_of (HAA.out _)) | (go_at_call 18; with_reducible exact later_of (HA.out _ (HT.out.later (by repeat (first | (with_reducible exact hb2) | (with_reducible refine ext_later ?_ _) | (with_reducible refine ext_drew ?_))))))))
          refine wpQuiet_nil ?_
          rintro _ ⟨x9, rfl⟩
          go_wp2
          all_goals (go_ret; exact ⟨by first | rfl | (simp; omega), Later.ex (by repeat (first | (with_reducible exact hb2) | (with_reducible refine ext_later ?_ _) | (with_reducible refine ext_drew ?_)))⟩)
end Go.Proofs.YtbdhnmjmbbahhaaDoor
