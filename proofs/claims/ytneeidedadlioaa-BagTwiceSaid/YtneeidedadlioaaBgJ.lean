/- Bags: BagJoins. -/
import Derived.Test.YtneeidedadlioaaBgY
import Derived.Test.YtneeidedadlioaaBgQ
namespace Go.Proofs.Ytneeidedadlioaa
open Go Go.RowKit Go.BigFrame

theorem joinBR_len {a b x : Bg} {e : Int} (h : joinBR a b = (x, e)) : x.v.length ≤ 32 := by
  unfold joinBR at h
  split at h
  · split at h
    · rename_i h1
      obtain ⟨h2, _⟩ := Prod.mk.inj h
      rw [← h2]; exact h1
    · obtain ⟨h2, _⟩ := Prod.mk.inj h
      rw [← h2]; exact Nat.zero_le _
  · obtain ⟨h2, _⟩ := Prod.mk.inj h
    rw [← h2]; exact Nat.zero_le _
theorem heldL_step {l : List Vl} {k : Nat} {x : Vl} (h : l[k]? = some x) (d : En) : heldL (l.take (k + 1)) d = (heldL (l.take k) d || decide (x.1 = d)) := by
  unfold heldL
  rw [List.take_add_one, h, List.any_append]
  simp
/-- Who of the first ones knew of a dot, and does not hold it. -/
def knB (b : Nat → Bg) (d : En) : Nat → Bool
  | 0 => false
  | o + 1 => knB b d o || (!heldL (b o).v d && hasV (b o).k d)
theorem knB_iff {b : Nat → Bg} {d : En} : ∀ {n : Nat}, knB b d n = true ↔ ∃ o, o < n ∧ heldL (b o).v d = false ∧ hasV (b o).k d = true
  | 0 => ⟨fun h => (nomatch h), fun h => by
    obtain ⟨o, h, _⟩ := h
    omega⟩
  | n + 1 => by
    show (knB b d n || (!heldL (b n).v d && hasV (b n).k d)) = true ↔ _
    rw [Bool.or_eq_true, Bool.and_eq_true, Bool.not_eq_true', knB_iff]
    constructor
    · rintro (⟨o, h, q⟩ | q)
      · exact ⟨o, by omega, q⟩
      · exact ⟨n, by omega, q⟩
    · rintro ⟨o, h, q⟩
      rcases (show o < n ∨ o = n by omega) with h | rfl
      · exact .inl ⟨o, h, q⟩
      · exact .inr q
theorem Mem.rowAt3 {b : Nat → Bg} {P : Nat → Option Addr × Nat} {i : Nat} (hi : i < 3) {H0 : Nat → Prop} {w W : World} (h : Mem [rowB b P 0, rowB b P 1, rowB b P 2] H0 w W) : RowAt elemV W (.slice (P i).1 (b i).v.length (P i).2) (b i).v := by
  rcases (show i = 0 ∨ i = 1 ∨ i = 2 by omega) with rfl | rfl | rfl
  · exact h.row 0 rfl vRow
  · exact h.row 1 rfl vRow
  · exact h.row 2 rfl vRow
set_option maxHeartbeats 4000000 in
set_option maxRecDepth 100000 in
theorem bjoinsLaw_d (W0 : World) (vl : Value) (l : List Rw) (hsl : SrcE elemStp W0 vl l) (hl : l.length ≤ 140737488351232) : Does Try.prog 3 #[vl] [oldT W0] (.bool true) [oldT W0] := by
  intro w H hp
  have HM0 := Lib.hid (mem_refl hp)
  clear hp
  obtain ⟨pl, cl, rfl⟩ := row_form hsl
  go_enter Try.func3, Try.ntmps3
  refine wp_seq ?_
  refine wp_region_N [(0, 1)] (by kernel_rfl) ?_
  refine wpS_this [0] rfl (by kernel_rfl) (by simp only [pickL, nthL, List.cons_append, List.nil_append]; rfl) ?_
  repeat (go_big_quiet_step (fail))
  refine wpQuiet_nil ?_
  refine wpS_nil ?_
  refine then_normal ?_
  refine wp_seq ?_
  rcases hT0 : runT tx (l.map rwN) (min 40 l.length) with _ | T
  · have hT := Lib.hid hT0
    clear hT0
    refine wp_region_N [(0, 1), (1, 3), (2, 1), (3, 1), (4, 1), (5, 3), (6, 3), (7, 1)] (by kernel_rfl) ?_
    refine wpS_this [0] rfl (by kernel_rfl) (by simp only [pickL, nthL, List.cons_append, List.nil_append]; rfl) ?_
    repeat (go_big_quiet_step (fail))
    refine wpQuiet_nil ?_
    refine wpS_doesU1 (i := 1) (d := some 28) (rem := []) rfl (by rfl) rfl Try.call7 (bplay_d (oldT W0) _ l (rOld hsl) hl) rfl HM0.out [0] rfl covS_nil (fun _ => rfl) rfl ?_
    rintro u3 W2 hm1 -
    rw [hT.out] at hm1
    obtain ⟨gT, rfl, hm1q⟩ := Mem.play0 hm1
    clear hm1
    have HM4 := Lib.hid hm1q
    clear hm1q
    simp only [Act.put, List.setIfInBounds_toArray, List.set_cons_succ, List.set_cons_zero]
    refine wpS_this [2, 3, 4] rfl (by kernel_rfl) (by simp only [pickL, nthL, List.cons_append, List.nil_append]; rfl) ?_
    repeat (go_big_quiet_step (fail))
    refine wpQuiet_nil ?_
    refine wpS_alloc (i := 5) (dd := 3) (z := b3V (hb3 startT.b fun _ => (none, 0))) (cs := (b3C (hb3 startT.b fun _ => (none, 0))).toArray) rfl (by rfl) rfl (by kernel_rfl) rfl HM4.out covS_nil rfl ?_
    rintro b7 W6 hm5 -
    have HM8 := Lib.hid hm5
    clear hm5
    simp only [Act.put, List.setIfInBounds_toArray, List.set_cons_succ, List.set_cons_zero]
    refine wpS_storeA (i := 6) (L2 := [_]) (cs' := b3C (gT)) rfl (by rfl) rfl rfl rfl (by kernel_rfl) (b3C_one _) HM8.out 0 rfl rfl (by kernel_rfl) (by kernel_rfl) covS_nil rfl ?_
    rintro W10 hm9 -
    have HM11 := Lib.hid hm9
    clear hm9
    refine wpS_this [7] rfl (by kernel_rfl) (by simp only [pickL, nthL, List.cons_append, List.nil_append]; rfl) ?_
    repeat (go_big_quiet_step (fail))
    refine wpQuiet_nil ?_
    refine wpS_nil ?_
    refine then_normal ?_
    refine wp_seq ?_
    refine wp_seq ?_
    refine wp_region_N [(0, 1), (1, 1)] (by kernel_rfl) ?_
    refine wpS_this [0, 1] rfl (by kernel_rfl) (by simp only [pickL, nthL, List.cons_append, List.nil_append]; rfl) ?_
    repeat (go_big_quiet_step (fail))
    refine wpQuiet_nil ?_
    refine wpS_nil ?_
    refine then_normal ?_
    refine wp_cond_true rfl ?_
    refine wp_seq ?_
    refine wp_region_N [(0, 3), (1, 1)] (by kernel_rfl) ?_
    refine wpS_does0 (i := 0) (d := some 33) (rem := [_, _]) (out := [_, _]) rfl (by rfl) rfl Try.call8 (bawake_d)  HM11.out [] rfl covS_nil rfl rfl ?_
    rintro W13 hm12 -
    have HM14 := Lib.hid hm12
    clear hm12
    simp only [Act.put, List.setIfInBounds_toArray, List.set_cons_succ, List.set_cons_zero]
    refine wpS_this [1] rfl (by kernel_rfl) (by simp only [pickL, nthL, List.cons_append, List.nil_append]; rfl) ?_
    repeat (go_big_quiet_step (fail))
    refine wpQuiet_nil ?_
    refine wpS_nil ?_
    refine then_normal ?_
    refine wp_ret ?_
    refine then_ret ?_
    refine bodyPost_ret (results_tmp rfl _ _ _) rfl ?_
    exact does_ret (Mem.only (M := [_]) HM14.out [1] rfl) rfl rfl
  · have hT := Lib.hid hT0
    clear hT0
    refine wp_region_N [(0, 1), (1, 3), (2, 1), (3, 1), (4, 1), (5, 3), (6, 3), (7, 1)] (by kernel_rfl) ?_
    refine wpS_this [0] rfl (by kernel_rfl) (by simp only [pickL, nthL, List.cons_append, List.nil_append]; rfl) ?_
    repeat (go_big_quiet_step (fail))
    refine wpQuiet_nil ?_
    refine wpS_doesU1 (i := 1) (d := some 28) (rem := []) rfl (by rfl) rfl Try.call7 (bplay_d (oldT W0) _ l (rOld hsl) hl) rfl HM0.out [0] rfl covS_nil (fun _ => rfl) rfl ?_
    rintro u17 W16 hm15 -
    rw [hT.out] at hm15
    obtain ⟨PT, rfl, hm15q⟩ := Mem.play hm15
    clear hm15
    have HM18 := Lib.hid hm15q
    clear hm15q
    simp only [Act.put, List.setIfInBounds_toArray, List.set_cons_succ, List.set_cons_zero]
    refine wpS_this [2, 3, 4] rfl (by kernel_rfl) (by simp only [pickL, nthL, List.cons_append, List.nil_append]; rfl) ?_
    repeat (go_big_quiet_step (fail))
    refine wpQuiet_nil ?_
    refine wpS_alloc (i := 5) (dd := 3) (z := b3V (hb3 startT.b fun _ => (none, 0))) (cs := (b3C (hb3 startT.b fun _ => (none, 0))).toArray) rfl (by rfl) rfl (by kernel_rfl) rfl HM18.out covS_nil rfl ?_
    rintro b21 W20 hm19 -
    have HM22 := Lib.hid hm19
    clear hm19
    simp only [Act.put, List.setIfInBounds_toArray, List.set_cons_succ, List.set_cons_zero]
    refine wpS_storeA (i := 6) (L2 := [_, _, _, _]) (cs' := b3C ((hb3 T.b PT))) rfl (by rfl) rfl rfl rfl (by kernel_rfl) (b3C_one _) HM22.out 0 rfl rfl (by kernel_rfl) (by kernel_rfl) covS_nil rfl ?_
    rintro W24 hm23 -
    have HM25 := Lib.hid hm23
    clear hm23
    refine wpS_this [7] rfl (by kernel_rfl) (by simp only [pickL, nthL, List.cons_append, List.nil_append]; rfl) ?_
    repeat (go_big_quiet_step (fail))
    refine wpQuiet_nil ?_
    refine wpS_nil ?_
    refine then_normal ?_
    refine wp_seq ?_
    refine wp_seq ?_
    refine wp_region_N [(0, 1), (1, 1)] (by kernel_rfl) ?_
    refine wpS_this [0, 1] rfl (by kernel_rfl) (by simp only [pickL, nthL, List.cons_append, List.nil_append]; rfl) ?_
    repeat (go_big_quiet_step (fail))
    refine wpQuiet_nil ?_
    refine wpS_nil ?_
    refine then_normal ?_
    refine wp_cond_false rfl ?_
    refine wp_skip ?_
    refine then_normal ?_
    refine wp_seq ?_
    have hI : Hid (InvT tx T (min 40 l.length)) := Lib.hid (runT_inv tx_size rwN_lt _ (by omega) _ hT.out)
    obtain ⟨x, e1, hx'⟩ : ∃ X E, joinBR (T.b 0) (T.b 1) = (X, E) := ⟨_, _, rfl⟩
    have lx : Hid (x.v.length ≤ 4398046510976) := Lib.hid (Nat.le_trans (joinBR_len hx') (by decide))
    have hx := Lib.hid hx'
    clear hx'
    obtain ⟨y, e2, hy'⟩ : ∃ X E, joinBR (T.b 1) (T.b 0) = (X, E) := ⟨_, _, rfl⟩
    have ly : Hid (y.v.length ≤ 4398046510976) := Lib.hid (Nat.le_trans (joinBR_len hy') (by decide))
    have hy := Lib.hid hy'
    clear hy'
    obtain ⟨z, e3, hz'⟩ : ∃ X E, joinBR (T.b 1) (T.b 2) = (X, E) := ⟨_, _, rfl⟩
    have lz : Hid (z.v.length ≤ 4398046510976) := Lib.hid (Nat.le_trans (joinBR_len hz') (by decide))
    have hz := Lib.hid hz'
    clear hz'
    obtain ⟨p, e4, hp'⟩ : ∃ X E, joinBR (x) (T.b 2) = (X, E) := ⟨_, _, rfl⟩
    have lp : Hid (p.v.length ≤ 4398046510976) := Lib.hid (Nat.le_trans (joinBR_len hp') (by decide))
    have hp := Lib.hid hp'
    clear hp'
    obtain ⟨q, e5, hq'⟩ : ∃ X E, joinBR (T.b 0) (z) = (X, E) := ⟨_, _, rfl⟩
    have lq : Hid (q.v.length ≤ 4398046510976) := Lib.hid (Nat.le_trans (joinBR_len hq') (by decide))
    have hq := Lib.hid hq'
    clear hq'
    refine wp_region_N [(0, 1), (1, 1), (2, 1), (3, 1), (4, 3), (5, 1), (6, 1), (7, 1), (8, 3), (9, 3), (10, 1)] (by kernel_rfl) ?_
    refine wpS_read (i := 0) (d := some 35) rfl (by rfl) (run_addrB3 (show 0 < 3 by decide) rfl rfl rfl) rfl ?_
    simp only [Act.put, List.setIfInBounds_toArray, List.set_cons_succ, List.set_cons_zero]
    refine wpS_loadA (i := 1) (d := some 36) (cells := hbC ((hb3 T.b PT) 0)) rfl (by rfl) rfl rfl (HM25.out.part 0 rfl (b3C_sub (show 0 < 3 by decide))) Try.underlying27 rfl (by kernel_rfl) rfl ?_
    simp only [Act.put, List.setIfInBounds_toArray, List.set_cons_succ, List.set_cons_zero]
    refine wpS_read (i := 2) (d := some 37) rfl (by rfl) (run_addrB3 (show 1 < 3 by decide) rfl rfl rfl) rfl ?_
    simp only [Act.put, List.setIfInBounds_toArray, List.set_cons_succ, List.set_cons_zero]
    refine wpS_loadA (i := 3) (d := some 38) (cells := hbC ((hb3 T.b PT) 1)) rfl (by rfl) rfl rfl (HM25.out.part 0 rfl (b3C_sub (show 1 < 3 by decide))) Try.underlying27 rfl (by kernel_rfl) rfl ?_
    simp only [Act.put, List.setIfInBounds_toArray, List.set_cons_succ, List.set_cons_zero]
    refine wpS_doesU2 (i := 4) (d := some 39) (rem := [_, _]) rfl (by rfl) rfl Try.call9 (DoesU.ofList (bjoin_d (listT [_, _, _]) _ (T.b 0) (readsAt 0 rfl rfl rfl (show 0 < 3 by decide)) (Nat.le_trans (hI.out.may 0 (by decide)).len (by decide)) _ (T.b 1) (readsAt 0 rfl rfl rfl (show 1 < 3 by decide)) (Nat.le_trans (hI.out.may 1 (by decide)).len (by decide)) x e1 hx.out)) rfl rfl HM25.out [1, 1, 1] rfl covS_nil (fun _ => rfl) rfl ?_
    rintro u28 W27 hm26 -
    obtain ⟨px, cx, rfl, hm26q⟩ := Mem.bagE rfl hm26
    clear hm26
    have HM29 := Lib.hid hm26q
    clear hm26q
    simp only [Act.put, List.setIfInBounds_toArray, List.set_cons_succ, List.set_cons_zero]
    refine wpS_this [5, 6, 7] rfl (by kernel_rfl) (by simp only [pickL, nthL, List.cons_append, List.nil_append]; rfl) ?_
    repeat (go_big_quiet_step (fail))
    refine wpQuiet_nil ?_
    refine wpS_alloc (i := 8) (dd := 5) (z := bgV noB.k (.slice none 0 0)) (cs := (bgC noB.k (.slice none 0 0)).toArray) rfl (by rfl) rfl (by kernel_rfl) rfl HM29.out covS_nil rfl ?_
    rintro b32 W31 hm30 -
    have HM33 := Lib.hid hm30
    clear hm30
    simp only [Act.put, List.setIfInBounds_toArray, List.set_cons_succ, List.set_cons_zero]
    refine wpS_storeA (i := 9) (L2 := [_, _, _, _, _, _]) (cs' := bgC (x.k) (.slice px x.v.length cx)) rfl (by rfl) rfl rfl rfl (by kernel_rfl) (bgC_one _ _ _) HM33.out 0 rfl rfl (by kernel_rfl) (by kernel_rfl) covS_nil rfl ?_
    rintro W35 hm34 -
    have HM36 := Lib.hid hm34
    clear hm34
    refine wpS_this [10] rfl (by kernel_rfl) (by simp only [pickL, nthL, List.cons_append, List.nil_append]; rfl) ?_
    repeat (go_big_quiet_step (fail))
    refine wpQuiet_nil ?_
    refine wpS_nil ?_
    refine then_normal ?_
    refine wp_seq ?_
    refine wp_region_N [(0, 1), (1, 1), (2, 1), (3, 1), (4, 3), (5, 1), (6, 1), (7, 1), (8, 3), (9, 3), (10, 1)] (by kernel_rfl) ?_
    refine wpS_read (i := 0) (d := some 43) rfl (by rfl) (run_addrB3 (show 1 < 3 by decide) rfl rfl rfl) rfl ?_
    simp only [Act.put, List.setIfInBounds_toArray, List.set_cons_succ, List.set_cons_zero]
    refine wpS_loadA (i := 1) (d := some 44) (cells := hbC ((hb3 T.b PT) 1)) rfl (by rfl) rfl rfl (HM36.out.part 5 rfl (b3C_sub (show 1 < 3 by decide))) Try.underlying27 rfl (by kernel_rfl) rfl ?_
    simp only [Act.put, List.setIfInBounds_toArray, List.set_cons_succ, List.set_cons_zero]
    refine wpS_read (i := 2) (d := some 45) rfl (by rfl) (run_addrB3 (show 0 < 3 by decide) rfl rfl rfl) rfl ?_
    simp only [Act.put, List.setIfInBounds_toArray, List.set_cons_succ, List.set_cons_zero]
    refine wpS_loadA (i := 3) (d := some 46) (cells := hbC ((hb3 T.b PT) 0)) rfl (by rfl) rfl rfl (HM36.out.part 5 rfl (b3C_sub (show 0 < 3 by decide))) Try.underlying27 rfl (by kernel_rfl) rfl ?_
    simp only [Act.put, List.setIfInBounds_toArray, List.set_cons_succ, List.set_cons_zero]
    refine wpS_doesU2 (i := 4) (d := some 47) (rem := [_, _, _, _]) rfl (by rfl) rfl Try.call9 (DoesU.ofList (bjoin_d (listT [_, _, _]) _ (T.b 1) (readsAt 0 rfl rfl rfl (show 1 < 3 by decide)) (Nat.le_trans (hI.out.may 1 (by decide)).len (by decide)) _ (T.b 0) (readsAt 0 rfl rfl rfl (show 0 < 3 by decide)) (Nat.le_trans (hI.out.may 0 (by decide)).len (by decide)) y e2 hy.out)) rfl rfl HM36.out [2, 2, 2] rfl covS_nil (fun _ => rfl) rfl ?_
    rintro u39 W38 hm37 -
    obtain ⟨py, cy, rfl, hm37q⟩ := Mem.bagE rfl hm37
    clear hm37
    have HM40 := Lib.hid hm37q
    clear hm37q
    simp only [Act.put, List.setIfInBounds_toArray, List.set_cons_succ, List.set_cons_zero]
    refine wpS_this [5, 6, 7] rfl (by kernel_rfl) (by simp only [pickL, nthL, List.cons_append, List.nil_append]; rfl) ?_
    repeat (go_big_quiet_step (fail))
    refine wpQuiet_nil ?_
    refine wpS_alloc (i := 8) (dd := 7) (z := bgV noB.k (.slice none 0 0)) (cs := (bgC noB.k (.slice none 0 0)).toArray) rfl (by rfl) rfl (by kernel_rfl) rfl HM40.out covS_nil rfl ?_
    rintro b43 W42 hm41 -
    have HM44 := Lib.hid hm41
    clear hm41
    simp only [Act.put, List.setIfInBounds_toArray, List.set_cons_succ, List.set_cons_zero]
    refine wpS_storeA (i := 9) (L2 := [_, _, _, _, _, _, _, _]) (cs' := bgC (y.k) (.slice py y.v.length cy)) rfl (by rfl) rfl rfl rfl (by kernel_rfl) (bgC_one _ _ _) HM44.out 0 rfl rfl (by kernel_rfl) (by kernel_rfl) covS_nil rfl ?_
    rintro W46 hm45 -
    have HM47 := Lib.hid hm45
    clear hm45
    refine wpS_this [10] rfl (by kernel_rfl) (by simp only [pickL, nthL, List.cons_append, List.nil_append]; rfl) ?_
    repeat (go_big_quiet_step (fail))
    refine wpQuiet_nil ?_
    refine wpS_nil ?_
    refine then_normal ?_
    refine wp_seq ?_
    refine wp_region_N [(0, 1), (1, 1), (2, 1), (3, 1), (4, 3), (5, 1), (6, 1), (7, 1), (8, 3), (9, 3), (10, 1)] (by kernel_rfl) ?_
    refine wpS_read (i := 0) (d := some 51) rfl (by rfl) (run_addrB3 (show 1 < 3 by decide) rfl rfl rfl) rfl ?_
    simp only [Act.put, List.setIfInBounds_toArray, List.set_cons_succ, List.set_cons_zero]
    refine wpS_loadA (i := 1) (d := some 52) (cells := hbC ((hb3 T.b PT) 1)) rfl (by rfl) rfl rfl (HM47.out.part 7 rfl (b3C_sub (show 1 < 3 by decide))) Try.underlying27 rfl (by kernel_rfl) rfl ?_
    simp only [Act.put, List.setIfInBounds_toArray, List.set_cons_succ, List.set_cons_zero]
    refine wpS_read (i := 2) (d := some 53) rfl (by rfl) (run_addrB3 (show 2 < 3 by decide) rfl rfl rfl) rfl ?_
    simp only [Act.put, List.setIfInBounds_toArray, List.set_cons_succ, List.set_cons_zero]
    refine wpS_loadA (i := 3) (d := some 54) (cells := hbC ((hb3 T.b PT) 2)) rfl (by rfl) rfl rfl (HM47.out.part 7 rfl (b3C_sub (show 2 < 3 by decide))) Try.underlying27 rfl (by kernel_rfl) rfl ?_
    simp only [Act.put, List.setIfInBounds_toArray, List.set_cons_succ, List.set_cons_zero]
    refine wpS_doesU2 (i := 4) (d := some 55) (rem := [_, _, _, _, _, _]) rfl (by rfl) rfl Try.call9 (DoesU.ofList (bjoin_d (listT [_, _, _]) _ (T.b 1) (readsAt 0 rfl rfl rfl (show 1 < 3 by decide)) (Nat.le_trans (hI.out.may 1 (by decide)).len (by decide)) _ (T.b 2) (readsAt 0 rfl rfl rfl (show 2 < 3 by decide)) (Nat.le_trans (hI.out.may 2 (by decide)).len (by decide)) z e3 hz.out)) rfl rfl HM47.out [2, 2, 2] rfl covS_nil (fun _ => rfl) rfl ?_
    rintro u50 W49 hm48 -
    obtain ⟨pz, cz, rfl, hm48q⟩ := Mem.bagE rfl hm48
    clear hm48
    have HM51 := Lib.hid hm48q
    clear hm48q
    simp only [Act.put, List.setIfInBounds_toArray, List.set_cons_succ, List.set_cons_zero]
    refine wpS_this [5, 6, 7] rfl (by kernel_rfl) (by simp only [pickL, nthL, List.cons_append, List.nil_append]; rfl) ?_
    repeat (go_big_quiet_step (fail))
    refine wpQuiet_nil ?_
    refine wpS_alloc (i := 8) (dd := 9) (z := bgV noB.k (.slice none 0 0)) (cs := (bgC noB.k (.slice none 0 0)).toArray) rfl (by rfl) rfl (by kernel_rfl) rfl HM51.out covS_nil rfl ?_
    rintro b54 W53 hm52 -
    have HM55 := Lib.hid hm52
    clear hm52
    simp only [Act.put, List.setIfInBounds_toArray, List.set_cons_succ, List.set_cons_zero]
    refine wpS_storeA (i := 9) (L2 := [_, _, _, _, _, _, _, _, _, _]) (cs' := bgC (z.k) (.slice pz z.v.length cz)) rfl (by rfl) rfl rfl rfl (by kernel_rfl) (bgC_one _ _ _) HM55.out 0 rfl rfl (by kernel_rfl) (by kernel_rfl) covS_nil rfl ?_
    rintro W57 hm56 -
    have HM58 := Lib.hid hm56
    clear hm56
    refine wpS_this [10] rfl (by kernel_rfl) (by simp only [pickL, nthL, List.cons_append, List.nil_append]; rfl) ?_
    repeat (go_big_quiet_step (fail))
    refine wpQuiet_nil ?_
    refine wpS_nil ?_
    refine then_normal ?_
    refine wp_seq ?_
    refine wp_region_N [(0, 1), (1, 1), (2, 1), (3, 3), (4, 1), (5, 1), (6, 1), (7, 3), (8, 3), (9, 1)] (by kernel_rfl) ?_
    refine wpS_loadA (i := 0) (d := some 59) (cells := bgC (x.k) (.slice px x.v.length cx)) rfl (by rfl) rfl rfl (HM58.out.part 7 rfl (bgC_all)) Try.underlying27 rfl (by kernel_rfl) rfl ?_
    simp only [Act.put, List.setIfInBounds_toArray, List.set_cons_succ, List.set_cons_zero]
    refine wpS_read (i := 1) (d := some 60) rfl (by rfl) (run_addrB3 (show 2 < 3 by decide) rfl rfl rfl) rfl ?_
    simp only [Act.put, List.setIfInBounds_toArray, List.set_cons_succ, List.set_cons_zero]
    refine wpS_loadA (i := 2) (d := some 61) (cells := hbC ((hb3 T.b PT) 2)) rfl (by rfl) rfl rfl (HM58.out.part 9 rfl (b3C_sub (show 2 < 3 by decide))) Try.underlying27 rfl (by kernel_rfl) rfl ?_
    simp only [Act.put, List.setIfInBounds_toArray, List.set_cons_succ, List.set_cons_zero]
    refine wpS_doesU2 (i := 3) (d := some 62) (rem := [_, _, _, _, _, _, _]) rfl (by rfl) rfl Try.call9 (DoesU.ofList (bjoin_d (listT [_, _, _, _]) _ x (vL 0 rfl rowT_reads) lx.out _ (T.b 2) (readsAt 1 rfl rfl rfl (show 2 < 3 by decide)) (Nat.le_trans (hI.out.may 2 (by decide)).len (by decide)) p e4 hp.out)) rfl rfl HM58.out [8, 2, 2, 2] rfl covS_nil (fun _ => rfl) rfl ?_
    rintro u61 W60 hm59 -
    obtain ⟨pp, cp, rfl, hm59q⟩ := Mem.bagE rfl hm59
    clear hm59
    have HM62 := Lib.hid hm59q
    clear hm59q
    simp only [Act.put, List.setIfInBounds_toArray, List.set_cons_succ, List.set_cons_zero]
    refine wpS_this [4, 5, 6] rfl (by kernel_rfl) (by simp only [pickL, nthL, List.cons_append, List.nil_append]; rfl) ?_
    repeat (go_big_quiet_step (fail))
    refine wpQuiet_nil ?_
    refine wpS_alloc (i := 7) (dd := 11) (z := bgV noB.k (.slice none 0 0)) (cs := (bgC noB.k (.slice none 0 0)).toArray) rfl (by rfl) rfl (by kernel_rfl) rfl HM62.out covS_nil rfl ?_
    rintro b65 W64 hm63 -
    have HM66 := Lib.hid hm63
    clear hm63
    simp only [Act.put, List.setIfInBounds_toArray, List.set_cons_succ, List.set_cons_zero]
    refine wpS_storeA (i := 8) (L2 := [_, _, _, _, _, _, _, _, _, _, _, _]) (cs' := bgC (p.k) (.slice pp p.v.length cp)) rfl (by rfl) rfl rfl rfl (by kernel_rfl) (bgC_one _ _ _) HM66.out 0 rfl rfl (by kernel_rfl) (by kernel_rfl) covS_nil rfl ?_
    rintro W68 hm67 -
    have HM69 := Lib.hid hm67
    clear hm67
    refine wpS_this [9] rfl (by kernel_rfl) (by simp only [pickL, nthL, List.cons_append, List.nil_append]; rfl) ?_
    repeat (go_big_quiet_step (fail))
    refine wpQuiet_nil ?_
    refine wpS_nil ?_
    refine then_normal ?_
    refine wp_seq ?_
    refine wp_region_N [(0, 1), (1, 1), (2, 1), (3, 3), (4, 1), (5, 1), (6, 1), (7, 3), (8, 3), (9, 1)] (by kernel_rfl) ?_
    refine wpS_read (i := 0) (d := some 66) rfl (by rfl) (run_addrB3 (show 0 < 3 by decide) rfl rfl rfl) rfl ?_
    simp only [Act.put, List.setIfInBounds_toArray, List.set_cons_succ, List.set_cons_zero]
    refine wpS_loadA (i := 1) (d := some 67) (cells := hbC ((hb3 T.b PT) 0)) rfl (by rfl) rfl rfl (HM69.out.part 11 rfl (b3C_sub (show 0 < 3 by decide))) Try.underlying27 rfl (by kernel_rfl) rfl ?_
    simp only [Act.put, List.setIfInBounds_toArray, List.set_cons_succ, List.set_cons_zero]
    refine wpS_loadA (i := 2) (d := some 68) (cells := bgC (z.k) (.slice pz z.v.length cz)) rfl (by rfl) rfl rfl (HM69.out.part 6 rfl (bgC_all)) Try.underlying27 rfl (by kernel_rfl) rfl ?_
    simp only [Act.put, List.setIfInBounds_toArray, List.set_cons_succ, List.set_cons_zero]
    refine wpS_doesU2 (i := 3) (d := some 69) (rem := [_, _, _, _, _, _, _, _, _]) rfl (by rfl) rfl Try.call9 (DoesU.ofList (bjoin_d (listT [_, _, _, _]) _ (T.b 0) (readsAt 1 rfl rfl rfl (show 0 < 3 by decide)) (Nat.le_trans (hI.out.may 0 (by decide)).len (by decide)) _ z (vL 0 rfl rowT_reads) lz.out q e5 hq.out)) rfl rfl HM69.out [7, 3, 3, 3] rfl covS_nil (fun _ => rfl) rfl ?_
    rintro u72 W71 hm70 -
    obtain ⟨pq, cq, rfl, hm70q⟩ := Mem.bagE rfl hm70
    clear hm70
    have HM73 := Lib.hid hm70q
    clear hm70q
    simp only [Act.put, List.setIfInBounds_toArray, List.set_cons_succ, List.set_cons_zero]
    refine wpS_this [4, 5, 6] rfl (by kernel_rfl) (by simp only [pickL, nthL, List.cons_append, List.nil_append]; rfl) ?_
    repeat (go_big_quiet_step (fail))
    refine wpQuiet_nil ?_
    refine wpS_alloc (i := 7) (dd := 13) (z := bgV noB.k (.slice none 0 0)) (cs := (bgC noB.k (.slice none 0 0)).toArray) rfl (by rfl) rfl (by kernel_rfl) rfl HM73.out covS_nil rfl ?_
    rintro b76 W75 hm74 -
    have HM77 := Lib.hid hm74
    clear hm74
    simp only [Act.put, List.setIfInBounds_toArray, List.set_cons_succ, List.set_cons_zero]
    refine wpS_storeA (i := 8) (L2 := [_, _, _, _, _, _, _, _, _, _, _, _, _, _]) (cs' := bgC (q.k) (.slice pq q.v.length cq)) rfl (by rfl) rfl rfl rfl (by kernel_rfl) (bgC_one _ _ _) HM77.out 0 rfl rfl (by kernel_rfl) (by kernel_rfl) covS_nil rfl ?_
    rintro W79 hm78 -
    have HM80 := Lib.hid hm78
    clear hm78
    refine wpS_this [9] rfl (by kernel_rfl) (by simp only [pickL, nthL, List.cons_append, List.nil_append]; rfl) ?_
    repeat (go_big_quiet_step (fail))
    refine wpQuiet_nil ?_
    refine wpS_nil ?_
    refine then_normal ?_
    refine wp_seq ?_
    refine wp_seq ?_
    rcases (show e1 = 5 ∨ (e1 ≠ 5 ∧ e3 = 5) ∨ (e1 ≠ 5 ∧ e3 ≠ 5 ∧ e4 = 5) ∨ (e1 ≠ 5 ∧ e3 ≠ 5 ∧ e4 ≠ 5 ∧ e5 = 5) ∨ (e1 ≠ 5 ∧ e3 ≠ 5 ∧ e4 ≠ 5 ∧ e5 ≠ 5) from by omega) with q1 | ⟨q1, q3⟩ | ⟨q1, q3, q4⟩ | ⟨q1, q3, q4, q5⟩ | ⟨q1, q3, q4, q5⟩
    · have g1 : (e1 == 5) = true := beq_iff_eq.2 q1
      replace q1 := Lib.hid q1
      refine wp_region_N [(0, 1), (1, 1), (2, 1), (3, 1), (4, 1), (5, 1), (6, 1), (7, 1), (8, 1), (9, 1), (10, 1), (11, 1), (12, 1), (13, 1)] (by kernel_rfl) ?_
      refine wpS_this [0, 1, 2, 3, 4, 5, 6, 7, 8, 9, 10, 11, 12, 13] rfl (by kernel_rfl) (by simp only [pickL, nthL, List.cons_append, List.nil_append]; rfl) ?_
      repeat (go_big_quiet_step (fail))
      refine wpQuiet_nil ?_
      refine wpS_nil ?_
      refine then_normal ?_
      refine wp_cond_true rfl ?_
      refine wp_seq ?_
      refine wp_region_N [(0, 3), (1, 1)] (by kernel_rfl) ?_
      refine wpS_does0 (i := 0) (d := some 86) (rem := [_, _, _, _, _, _, _, _, _, _, _, _, _, _, _]) (out := [_, _, _, _, _, _, _, _, _, _, _, _, _, _, _]) rfl (by rfl) rfl Try.call8 (bawake_d)  HM80.out [] rfl covS_nil rfl rfl ?_
      rintro W82 hm81 -
      have HM83 := Lib.hid hm81
      clear hm81
      simp only [Act.put, List.setIfInBounds_toArray, List.set_cons_succ, List.set_cons_zero]
      refine wpS_this [1] rfl (by kernel_rfl) (by simp only [pickL, nthL, List.cons_append, List.nil_append]; rfl) ?_
      repeat (go_big_quiet_step (fail))
      refine wpQuiet_nil ?_
      refine wpS_nil ?_
      refine then_normal ?_
      refine wp_ret ?_
      refine then_ret ?_
      refine bodyPost_ret (results_tmp rfl _ _ _) rfl ?_
      exact does_ret (Mem.only (M := [_]) HM83.out [14] rfl) rfl rfl
    · have g1 : (e1 == 5) = false := beq_eq_false_iff_ne.2 q1
      have g3 : (e3 == 5) = true := beq_iff_eq.2 q3
      replace q1 := Lib.hid q1
      replace q3 := Lib.hid q3
      refine wp_region_N [(0, 1), (1, 1), (2, 1), (3, 1), (4, 1), (5, 1), (6, 1), (7, 1), (8, 1), (9, 1), (10, 1), (11, 1), (12, 1), (13, 1)] (by kernel_rfl) ?_
      refine wpS_this [0, 1, 2, 3, 4, 5, 6, 7, 8, 9, 10, 11, 12, 13] rfl (by kernel_rfl) (by simp only [pickL, nthL, List.cons_append, List.nil_append]; rfl) ?_
      repeat (go_big_quiet_step (fail))
      refine wpQuiet_nil ?_
      refine wpS_nil ?_
      refine then_normal ?_
      refine wp_cond_true rfl ?_
      refine wp_seq ?_
      refine wp_region_N [(0, 3), (1, 1)] (by kernel_rfl) ?_
      refine wpS_does0 (i := 0) (d := some 86) (rem := [_, _, _, _, _, _, _, _, _, _, _, _, _, _, _]) (out := [_, _, _, _, _, _, _, _, _, _, _, _, _, _, _]) rfl (by rfl) rfl Try.call8 (bawake_d)  HM80.out [] rfl covS_nil rfl rfl ?_
      rintro W85 hm84 -
      have HM86 := Lib.hid hm84
      clear hm84
      simp only [Act.put, List.setIfInBounds_toArray, List.set_cons_succ, List.set_cons_zero]
      refine wpS_this [1] rfl (by kernel_rfl) (by simp only [pickL, nthL, List.cons_append, List.nil_append]; rfl) ?_
      repeat (go_big_quiet_step (fail))
      refine wpQuiet_nil ?_
      refine wpS_nil ?_
      refine then_normal ?_
      refine wp_ret ?_
      refine then_ret ?_
      refine bodyPost_ret (results_tmp rfl _ _ _) rfl ?_
      exact does_ret (Mem.only (M := [_]) HM86.out [14] rfl) rfl rfl
    · have g1 : (e1 == 5) = false := beq_eq_false_iff_ne.2 q1
      have g3 : (e3 == 5) = false := beq_eq_false_iff_ne.2 q3
      have g4 : (e4 == 5) = true := beq_iff_eq.2 q4
      replace q1 := Lib.hid q1
      replace q3 := Lib.hid q3
      replace q4 := Lib.hid q4
      refine wp_region_N [(0, 1), (1, 1), (2, 1), (3, 1), (4, 1), (5, 1), (6, 1), (7, 1), (8, 1), (9, 1), (10, 1), (11, 1), (12, 1), (13, 1)] (by kernel_rfl) ?_
      refine wpS_this [0, 1, 2, 3, 4, 5, 6, 7, 8, 9, 10, 11, 12, 13] rfl (by kernel_rfl) (by simp only [pickL, nthL, List.cons_append, List.nil_append]; rfl) ?_
      repeat (go_big_quiet_step (fail))
      refine wpQuiet_nil ?_
      refine wpS_nil ?_
      refine then_normal ?_
      refine wp_cond_true rfl ?_
      refine wp_seq ?_
      refine wp_region_N [(0, 3), (1, 1)] (by kernel_rfl) ?_
      refine wpS_does0 (i := 0) (d := some 86) (rem := [_, _, _, _, _, _, _, _, _, _, _, _, _, _, _]) (out := [_, _, _, _, _, _, _, _, _, _, _, _, _, _, _]) rfl (by rfl) rfl Try.call8 (bawake_d)  HM80.out [] rfl covS_nil rfl rfl ?_
      rintro W88 hm87 -
      have HM89 := Lib.hid hm87
      clear hm87
      simp only [Act.put, List.setIfInBounds_toArray, List.set_cons_succ, List.set_cons_zero]
      refine wpS_this [1] rfl (by kernel_rfl) (by simp only [pickL, nthL, List.cons_append, List.nil_append]; rfl) ?_
      repeat (go_big_quiet_step (fail))
      refine wpQuiet_nil ?_
      refine wpS_nil ?_
      refine then_normal ?_
      refine wp_ret ?_
      refine then_ret ?_
      refine bodyPost_ret (results_tmp rfl _ _ _) rfl ?_
      exact does_ret (Mem.only (M := [_]) HM89.out [14] rfl) rfl rfl
    · have g1 : (e1 == 5) = false := beq_eq_false_iff_ne.2 q1
      have g3 : (e3 == 5) = false := beq_eq_false_iff_ne.2 q3
      have g4 : (e4 == 5) = false := beq_eq_false_iff_ne.2 q4
      have g5 : (e5 == 5) = true := beq_iff_eq.2 q5
      replace q1 := Lib.hid q1
      replace q3 := Lib.hid q3
      replace q4 := Lib.hid q4
      replace q5 := Lib.hid q5
      refine wp_region_N [(0, 1), (1, 1), (2, 1), (3, 1), (4, 1), (5, 1), (6, 1), (7, 1), (8, 1), (9, 1), (10, 1), (11, 1), (12, 1), (13, 1)] (by kernel_rfl) ?_
      refine wpS_this [0, 1, 2, 3, 4, 5, 6, 7, 8, 9, 10, 11, 12, 13] rfl (by kernel_rfl) (by simp only [pickL, nthL, List.cons_append, List.nil_append]; rfl) ?_
      repeat (go_big_quiet_step (fail))
      refine wpQuiet_nil ?_
      refine wpS_nil ?_
      refine then_normal ?_
      refine wp_cond_true rfl ?_
      refine wp_seq ?_
      refine wp_region_N [(0, 3), (1, 1)] (by kernel_rfl) ?_
      refine wpS_does0 (i := 0) (d := some 86) (rem := [_, _, _, _, _, _, _, _, _, _, _, _, _, _, _]) (out := [_, _, _, _, _, _, _, _, _, _, _, _, _, _, _]) rfl (by rfl) rfl Try.call8 (bawake_d)  HM80.out [] rfl covS_nil rfl rfl ?_
      rintro W91 hm90 -
      have HM92 := Lib.hid hm90
      clear hm90
      simp only [Act.put, List.setIfInBounds_toArray, List.set_cons_succ, List.set_cons_zero]
      refine wpS_this [1] rfl (by kernel_rfl) (by simp only [pickL, nthL, List.cons_append, List.nil_append]; rfl) ?_
      repeat (go_big_quiet_step (fail))
      refine wpQuiet_nil ?_
      refine wpS_nil ?_
      refine then_normal ?_
      refine wp_ret ?_
      refine then_ret ?_
      refine bodyPost_ret (results_tmp rfl _ _ _) rfl ?_
      exact does_ret (Mem.only (M := [_]) HM92.out [14] rfl) rfl rfl
    · obtain ⟨rfl, rfl, rfl, rfl, rfl, exy, epq, hw1b', hw2b', hw3b', hmp', hp0⟩ := three_joins (hI.out.may 0 (by decide)) (hI.out.may 1 (by decide)) (hI.out.may 2 (by decide)) (hI.out.dat 0 (by decide)) (hI.out.dat 1 (by decide)) (hI.out.dat 2 (by decide)) hx.out hy.out hz.out hp.out hq.out q1 q3 q4 q5
      clear q1 q3 q4 q5
      have hs1 : Hid (sameB x y = true) := Lib.hid (by rw [exy]; exact sameB_self _)
      have hs2 : Hid (sameB p q = true) := Lib.hid (by rw [epq]; exact sameB_self _)
      clear exy epq
      have hw1b := Lib.hid hw1b'
      clear hw1b'
      have hw2b := Lib.hid hw2b'
      clear hw2b'
      have hw3b := Lib.hid hw3b'
      clear hw3b'
      have hmp := Lib.hid hmp'
      clear hmp'
      have hkn : Hid (∀ i, i < 3 → belowV (T.b i).k p.k = true) := Lib.hid (fun i hi => by rw [hp0]; exact three_known hi)
      have hin : Hid (∀ i, i < 3 → ∀ y, y ∈ (T.b i).v → (y ∈ p.v ↔ ¬ ∃ o, o < 3 ∧ heldL (T.b o).v y.1 = false ∧ hasV (T.b o).k y.1 = true)) := Lib.hid (fun i hi y hy => by rw [hp0]; exact three_in hI.out.may hI.out.dat hi hy)
      clear hp0
      have lp0 := lp.out
      refine wp_region_N [(0, 1), (1, 1), (2, 1), (3, 1), (4, 1), (5, 1), (6, 1), (7, 1), (8, 1), (9, 1), (10, 1), (11, 1), (12, 1), (13, 1)] (by kernel_rfl) ?_
      refine wpS_this [0, 1, 2, 3, 4, 5, 6, 7, 8, 9, 10, 11, 12, 13] rfl (by kernel_rfl) (by simp only [pickL, nthL, List.cons_append, List.nil_append]; rfl) ?_
      repeat (go_big_quiet_step (fail))
      refine wpQuiet_nil ?_
      refine wpS_nil ?_
      refine then_normal ?_
      refine wp_cond_false rfl ?_
      refine wp_skip ?_
      refine then_normal ?_
      refine wp_seq ?_
      refine wp_seq ?_
      refine wp_region_N [(0, 1), (1, 1), (2, 1), (3, 1), (4, 1), (5, 1), (6, 1), (7, 1), (8, 1), (9, 1), (10, 1), (11, 1), (12, 1), (13, 1), (14, 1), (15, 1), (16, 1), (17, 1), (18, 1), (19, 1), (20, 1), (21, 3), (22, 1), (23, 1), (24, 1), (25, 1), (26, 1), (27, 3), (28, 1), (29, 1), (30, 1), (31, 1), (32, 1), (33, 1), (34, 3), (35, 1), (36, 1), (37, 1), (38, 1), (39, 1), (40, 1), (41, 3), (42, 1), (43, 1), (44, 1), (45, 1), (46, 1), (47, 3), (48, 1), (49, 1), (50, 1), (51, 1), (52, 3), (53, 1), (54, 1)] (by kernel_rfl) ?_
      refine wpS_this [0, 1, 2, 3, 4, 5, 6, 7, 8, 9, 10, 11, 12, 13, 14, 15, 16, 17, 18] rfl (by kernel_rfl) (by simp only [pickL, nthL, List.cons_append, List.nil_append]; rfl) ?_
      repeat (go_big_quiet_step (fail))
      refine wpQuiet_nil ?_
      refine wpS_loadA (i := 19) (d := some 106) (cells := bgC (x.k) (.slice px x.v.length cx)) rfl (by rfl) rfl rfl (HM80.out.part 12 rfl (bgC_all)) Try.underlying27 rfl (by kernel_rfl) rfl ?_
      simp only [Act.put, List.setIfInBounds_toArray, List.set_cons_succ, List.set_cons_zero]
      refine wpS_loadA (i := 20) (d := some 107) (cells := bgC (y.k) (.slice py y.v.length cy)) rfl (by rfl) rfl rfl (HM80.out.part 10 rfl (bgC_all)) Try.underlying27 rfl (by kernel_rfl) rfl ?_
      simp only [Act.put, List.setIfInBounds_toArray, List.set_cons_succ, List.set_cons_zero]
      refine wpS_does2 (i := 21) (d := some 108) (rem := [_, _, _, _, _, _, _, _, _, _, _, _, _]) (out := [_, _, _, _, _, _, _, _, _, _, _, _, _, _, _]) rfl (by rfl) rfl Try.call10 (Does.ofList (bsame_d (listT [_, _]) _ x (vL 0 rfl rowT_reads) lx.out _ y (vL 1 rfl rowT_reads) ly.out)) rfl rfl HM80.out [8, 10] rfl covS_nil rfl rfl ?_
      rintro W94 hm93 -
      rw [hs1.out]
      have HM95 := Lib.hid hm93
      clear hm93
      simp only [Act.put, List.setIfInBounds_toArray, List.set_cons_succ, List.set_cons_zero]
      refine wpS_this [22, 23, 24] rfl (by kernel_rfl) (by simp only [pickL, nthL, List.cons_append, List.nil_append]; rfl) ?_
      repeat (go_big_quiet_step (fail))
      refine wpQuiet_nil ?_
      refine wpS_loadA (i := 25) (d := some 112) (cells := bgC (p.k) (.slice pp p.v.length cp)) rfl (by rfl) rfl rfl (HM95.out.part 8 rfl (bgC_all)) Try.underlying27 rfl (by kernel_rfl) rfl ?_
      simp only [Act.put, List.setIfInBounds_toArray, List.set_cons_succ, List.set_cons_zero]
      refine wpS_loadA (i := 26) (d := some 113) (cells := bgC (q.k) (.slice pq q.v.length cq)) rfl (by rfl) rfl rfl (HM95.out.part 2 rfl (bgC_all)) Try.underlying27 rfl (by kernel_rfl) rfl ?_
      simp only [Act.put, List.setIfInBounds_toArray, List.set_cons_succ, List.set_cons_zero]
      refine wpS_does2 (i := 27) (d := some 114) (rem := [_, _, _, _, _, _, _, _, _, _, _, _, _]) (out := [_, _, _, _, _, _, _, _, _, _, _, _, _, _, _]) rfl (by rfl) rfl Try.call10 (Does.ofList (bsame_d (listT [_, _]) _ p (vL 0 rfl rowT_reads) lp.out _ q (vL 1 rfl rowT_reads) lq.out)) rfl rfl HM95.out [9, 3] rfl covS_nil rfl rfl ?_
      rintro W97 hm96 -
      rw [hs2.out]
      have HM98 := Lib.hid hm96
      clear hm96
      simp only [Act.put, List.setIfInBounds_toArray, List.set_cons_succ, List.set_cons_zero]
      refine wpS_this [28, 29, 30] rfl (by kernel_rfl) (by simp only [pickL, nthL, List.cons_append, List.nil_append]; rfl) ?_
      repeat (go_big_quiet_step (fail))
      refine wpQuiet_nil ?_
      refine wpS_read (i := 31) (d := some 118) rfl (by rfl) (run_addrB3 (show 0 < 3 by decide) rfl rfl rfl) rfl ?_
      simp only [Act.put, List.setIfInBounds_toArray, List.set_cons_succ, List.set_cons_zero]
      refine wpS_loadA (i := 32) (d := some 119) (cells := hbC ((hb3 T.b PT) 0)) rfl (by rfl) rfl rfl (HM98.out.part 13 rfl (b3C_sub (show 0 < 3 by decide))) Try.underlying27 rfl (by kernel_rfl) rfl ?_
      simp only [Act.put, List.setIfInBounds_toArray, List.set_cons_succ, List.set_cons_zero]
      refine wpS_loadA (i := 33) (d := some 120) (cells := bgC (x.k) (.slice px x.v.length cx)) rfl (by rfl) rfl rfl (HM98.out.part 12 rfl (bgC_all)) Try.underlying27 rfl (by kernel_rfl) rfl ?_
      simp only [Act.put, List.setIfInBounds_toArray, List.set_cons_succ, List.set_cons_zero]
      refine wpS_does2 (i := 34) (d := some 121) (rem := [_, _, _, _, _, _, _, _, _, _, _]) (out := [_, _, _, _, _, _, _, _, _, _, _, _, _, _, _]) rfl (by rfl) rfl Try.call11 (Does.ofList (bbelow_d (listT [_, _, _, _]) _ (T.b 0) (readsAt 1 rfl rfl rfl (show 0 < 3 by decide)) (Nat.le_trans (hI.out.may 0 (by decide)).len (by decide)) _ x (vL 0 rfl rowT_reads) lx.out)) rfl rfl HM98.out [2, 5, 5, 5] rfl covS_nil rfl rfl ?_
      rintro W100 hm99 -
      rw [hw1b.out]
      have HM101 := Lib.hid hm99
      clear hm99
      simp only [Act.put, List.setIfInBounds_toArray, List.set_cons_succ, List.set_cons_zero]
      refine wpS_this [35, 36, 37] rfl (by kernel_rfl) (by simp only [pickL, nthL, List.cons_append, List.nil_append]; rfl) ?_
      repeat (go_big_quiet_step (fail))
      refine wpQuiet_nil ?_
      refine wpS_read (i := 38) (d := some 125) rfl (by rfl) (run_addrB3 (show 1 < 3 by decide) rfl rfl rfl) rfl ?_
      simp only [Act.put, List.setIfInBounds_toArray, List.set_cons_succ, List.set_cons_zero]
      refine wpS_loadA (i := 39) (d := some 126) (cells := hbC ((hb3 T.b PT) 1)) rfl (by rfl) rfl rfl (HM101.out.part 13 rfl (b3C_sub (show 1 < 3 by decide))) Try.underlying27 rfl (by kernel_rfl) rfl ?_
      simp only [Act.put, List.setIfInBounds_toArray, List.set_cons_succ, List.set_cons_zero]
      refine wpS_loadA (i := 40) (d := some 127) (cells := bgC (p.k) (.slice pp p.v.length cp)) rfl (by rfl) rfl rfl (HM101.out.part 9 rfl (bgC_all)) Try.underlying27 rfl (by kernel_rfl) rfl ?_
      simp only [Act.put, List.setIfInBounds_toArray, List.set_cons_succ, List.set_cons_zero]
      refine wpS_does2 (i := 41) (d := some 128) (rem := [_, _, _, _, _, _, _, _, _, _, _]) (out := [_, _, _, _, _, _, _, _, _, _, _, _, _, _, _]) rfl (by rfl) rfl Try.call11 (Does.ofList (bbelow_d (listT [_, _, _, _]) _ (T.b 1) (readsAt 1 rfl rfl rfl (show 1 < 3 by decide)) (Nat.le_trans (hI.out.may 1 (by decide)).len (by decide)) _ p (vL 0 rfl rowT_reads) lp.out)) rfl rfl HM101.out [4, 1, 1, 1] rfl covS_nil rfl rfl ?_
      rintro W103 hm102 -
      rw [hw2b.out]
      have HM104 := Lib.hid hm102
      clear hm102
      simp only [Act.put, List.setIfInBounds_toArray, List.set_cons_succ, List.set_cons_zero]
      refine wpS_this [42, 43, 44] rfl (by kernel_rfl) (by simp only [pickL, nthL, List.cons_append, List.nil_append]; rfl) ?_
      repeat (go_big_quiet_step (fail))
      refine wpQuiet_nil ?_
      refine wpS_loadA (i := 45) (d := some 132) (cells := bgC (x.k) (.slice px x.v.length cx)) rfl (by rfl) rfl rfl (HM104.out.part 12 rfl (bgC_all)) Try.underlying27 rfl (by kernel_rfl) rfl ?_
      simp only [Act.put, List.setIfInBounds_toArray, List.set_cons_succ, List.set_cons_zero]
      refine wpS_loadA (i := 46) (d := some 133) (cells := bgC (p.k) (.slice pp p.v.length cp)) rfl (by rfl) rfl rfl (HM104.out.part 9 rfl (bgC_all)) Try.underlying27 rfl (by kernel_rfl) rfl ?_
      simp only [Act.put, List.setIfInBounds_toArray, List.set_cons_succ, List.set_cons_zero]
      refine wpS_does2 (i := 47) (d := some 134) (rem := [_, _, _, _, _, _, _, _, _, _, _, _, _]) (out := [_, _, _, _, _, _, _, _, _, _, _, _, _, _, _]) rfl (by rfl) rfl Try.call11 (Does.ofList (bbelow_d (listT [_, _]) _ x (vL 0 rfl rowT_reads) lx.out _ p (vL 1 rfl rowT_reads) lp.out)) rfl rfl HM104.out [4, 0] rfl covS_nil rfl rfl ?_
      rintro W106 hm105 -
      rw [hw3b.out]
      have HM107 := Lib.hid hm105
      clear hm105
      simp only [Act.put, List.setIfInBounds_toArray, List.set_cons_succ, List.set_cons_zero]
      refine wpS_this [48, 49, 50] rfl (by kernel_rfl) (by simp only [pickL, nthL, List.cons_append, List.nil_append]; rfl) ?_
      repeat (go_big_quiet_step (fail))
      refine wpQuiet_nil ?_
      refine wpS_loadA (i := 51) (d := some 138) (cells := bgC (p.k) (.slice pp p.v.length cp)) rfl (by rfl) rfl rfl (HM107.out.part 9 rfl (bgC_all)) Try.underlying27 rfl (by kernel_rfl) rfl ?_
      simp only [Act.put, List.setIfInBounds_toArray, List.set_cons_succ, List.set_cons_zero]
      refine wpS_does1 (i := 52) (d := some 139) (rem := [_, _, _, _, _, _, _, _, _, _, _, _, _, _]) (out := [_, _, _, _, _, _, _, _, _, _, _, _, _, _, _]) rfl (by rfl) rfl Try.call12 (Does.ofList (bmay_d (listT [_]) _ p (vL 0 rfl rowT_reads) lp.out)) rfl HM107.out [1] rfl covS_nil rfl rfl ?_
      rintro W109 hm108 -
      rw [hmp.out]
      have HM110 := Lib.hid hm108
      clear hm108
      simp only [Act.put, List.setIfInBounds_toArray, List.set_cons_succ, List.set_cons_zero]
      refine wpS_this [53, 54] rfl (by kernel_rfl) (by simp only [pickL, nthL, List.cons_append, List.nil_append]; rfl) ?_
      repeat (go_big_quiet_step (fail))
      refine wpQuiet_nil ?_
      refine wpS_nil ?_
      refine then_normal ?_
      refine wp_cond_false rfl ?_
      refine wp_skip ?_
      refine then_normal ?_
      refine wp_seq ?_
      refine wp_seq ?_
      refine wp_region_N [(0, 1)] (by kernel_rfl) ?_
      refine wpS_this [0] rfl (by kernel_rfl) (by simp only [pickL, nthL, List.cons_append, List.nil_append]; rfl) ?_
      repeat (go_big_quiet_step (fail))
      refine wpQuiet_nil ?_
      refine wpS_nil ?_
      refine then_normal ?_
      refine wp_block ?_
      refine wp_loop_F [2, 15, 17, 18, 20, 21, 22, 23, 25, 142, 143, 144, 145, 146, 147, 148, 149, 150, 151, 152, 153, 154, 155, 156, 157, 158, 159, 160, 161, 162, 163, 164, 165, 166, 167, 168, 169, 170, 171, 172, 173, 174, 175, 176, 177, 178, 179, 180, 181, 182, 183, 184, 185, 186, 187, 188, 189, 190, 191, 192, 193, 194, 195, 196, 197, 198, 199, 200, 201, 202, 203, 204, 205, 206, 207, 208, 209, 210, 211, 212, 213, 214, 215, 216] (fun n vs W' => ∃ i : Nat, n = 3 - i ∧ vs 142 = .int .i64 (i : Int) ∧ i ≤ 3 ∧ Mem [rowT elemV (.slice pp p.v.length cp) p.v, boxT b65 (.cells (bgC p.k (.slice pp p.v.length cp)).toArray 27 (0, 0)), rowB T.b PT 0, rowB T.b PT 1, rowB T.b PT 2, boxT b21 (.cells (b3C (hb3 T.b PT)).toArray 28 (0, 0)), oldT W0] H w W') (n0 := 3) ?_ ?_
      · exact ⟨0, rfl, rfl, Nat.zero_le _, (Mem.only (M := [_, _, _, _, _, _, _]) HM110.out [0, 8, 1, 1, 1, 8, 8] rfl)⟩
      rintro n vs W' ⟨i, rfl, e142, hi, hm1⟩
      simp only [putAll, List.map_cons, List.map_nil, Act.put, List.setIfInBounds_toArray, List.set_cons_succ, List.set_cons_zero]
      rw [e142]
      clear e142
      have HM111 := Lib.hid hm1
      clear hm1
      refine wp_seq ?_
      refine wp_region_N [(0, 1)] (by kernel_rfl) ?_
      refine wpS_this [0] rfl (by kernel_rfl) (by simp only [pickL, nthL, List.cons_append, List.nil_append]; rfl) ?_
      repeat (go_big_quiet_step (fail))
      refine wpQuiet_nil ?_
      refine wpS_nil ?_
      refine then_normal ?_
      refine wp_seq ?_
      refine wp_cond_split rfl (fun h112 => ?_) (fun h112 => ?_)
      · have hi1 : i + 1 ≤ 3 := by have : (i : Int) < 3 := (by simpa using h112); omega
        have hi3 : i < 3 := hi1
        clear h112
        refine wp_skip ?_
        refine then_normal ?_
        refine wp_seq ?_
        refine wp_block ?_
        refine wp_seq ?_
        refine wp_region_N [(0, 1), (1, 1)] (by kernel_rfl) ?_
        refine wpS_this [0, 1] rfl (by kernel_rfl) (by simp only [pickL, nthL, List.cons_append, List.nil_append]; rfl) ?_
        repeat (go_big_quiet_step (fail))
        refine wpQuiet_nil ?_
        refine wpS_nil ?_
        refine then_normal ?_
        refine wp_seq ?_
        refine wp_seq ?_
        refine wp_region_M (fun k => k ∈ ([] : List Nat)) [(0, 1), (1, 1), (2, 1), (3, 1), (4, 1), (5, 1), (6, 3), (7, 1)] (by kernel_rfl) (by kernel_rfl) HM111.out ?_
        intro W113 hm114
        have HM115 := Lib.hid hm114
        clear hm114
        refine wpS_this [0] rfl (by kernel_rfl) (by simp only [pickL, nthL, List.cons_append, List.nil_append]; rfl) ?_
        repeat (go_big_quiet_step (fail))
        refine wpQuiet_nil ?_
        refine wpS_read (i := 1) (d := some 146) rfl (by rfl) (run_addrB3 hi3 rfl rfl rfl) rfl ?_
        simp only [Act.put, List.setIfInBounds_toArray, List.set_cons_succ, List.set_cons_zero]
        refine wpS_this [2] rfl (by kernel_rfl) (by simp only [pickL, nthL, List.cons_append, List.nil_append]; rfl) ?_
        repeat (go_big_quiet_step (fail))
        refine wpQuiet_nil ?_
        refine wpS_loadA (i := 3) (d := some 148) (cells := vcC ((hb3 T.b PT) i).f) rfl (by rfl) rfl rfl (HM115.out.part 5 rfl (b3C_vc hi3)) Try.underlying24 rfl (by kernel_rfl) rfl ?_
        simp only [Act.put, List.setIfInBounds_toArray, List.set_cons_succ, List.set_cons_zero]
        refine wpS_this [4] rfl (by kernel_rfl) (by simp only [pickL, nthL, List.cons_append, List.nil_append]; rfl) ?_
        repeat (go_big_quiet_step (fail))
        refine wpQuiet_nil ?_
        refine wpS_loadA (i := 5) (d := some 150) (cells := vcC (p.k)) rfl (by rfl) rfl rfl (HM115.out.part 1 rfl (bgC_vc)) Try.underlying24 rfl (by kernel_rfl) rfl ?_
        simp only [Act.put, List.setIfInBounds_toArray, List.set_cons_succ, List.set_cons_zero]
        refine wpS_does2 (i := 6) (d := some 151) (rem := [_, _, _, _, _, _, _]) (out := [_, _, _, _, _, _, _]) rfl (by rfl) rfl Try.call13 (cbelow_d (T.b i).k p.k) rfl rfl HM115.out [] rfl covS_nil rfl rfl ?_
        rintro W117 hm116 -
        rw [hkn.out i hi3]
        have HM118 := Lib.hid hm116
        clear hm116
        simp only [Act.put, List.setIfInBounds_toArray, List.set_cons_succ, List.set_cons_zero]
        refine wpS_this [7] rfl (by kernel_rfl) (by simp only [pickL, nthL, List.cons_append, List.nil_append]; rfl) ?_
        repeat (go_big_quiet_step (fail))
        refine wpQuiet_nil ?_
        refine wpS_nil ?_
        refine then_normal ?_
        refine wp_cond_false rfl ?_
        refine wp_skip ?_
        refine then_normal ?_
        refine wp_seq ?_
        have lTi : (T.b i).v.length ≤ 32 := (hI.out.may i hi3).len
        refine wp_region_N [(0, 1), (1, 1), (2, 1), (3, 1), (4, 1), (5, 1)] (by kernel_rfl) ?_
        refine wpS_this [0] rfl (by kernel_rfl) (by simp only [pickL, nthL, List.cons_append, List.nil_append]; rfl) ?_
        repeat (go_big_quiet_step (fail))
        refine wpQuiet_nil ?_
        refine wpS_read (i := 1) (d := some 154) rfl (by rfl) (run_addrB3 hi3 rfl rfl rfl) rfl ?_
        simp only [Act.put, List.setIfInBounds_toArray, List.set_cons_succ, List.set_cons_zero]
        refine wpS_this [2] rfl (by kernel_rfl) (by simp only [pickL, nthL, List.cons_append, List.nil_append]; rfl) ?_
        repeat (go_big_quiet_step (fail))
        refine wpQuiet_nil ?_
        refine wpS_load1 (i := 3) (d := some 156) (u := .slice (PT i).1 (T.b i).v.length (PT i).2) rfl (by rfl) rfl rfl (HM118.out.part1 5 rfl (b3C_sub hi3 8 _ bgC_sl)) Try.underlying25 rfl rfl ?_
        simp only [Act.put, List.setIfInBounds_toArray, List.set_cons_succ, List.set_cons_zero]
        refine wpS_this [4, 5] rfl (by kernel_rfl) (by simp only [pickL, nthL, List.cons_append, List.nil_append]; rfl) ?_
        repeat (go_big_quiet_step (fail))
        refine wpQuiet_nil ?_
        refine wpS_nil ?_
        refine then_normal ?_
        refine wp_block ?_
        refine wp_loop_F [2, 17, 18, 20, 21, 22, 23, 25, 158, 159, 160, 161, 162, 163, 164, 165, 166, 167, 168, 169, 170, 171, 172, 173, 174, 175, 176, 177, 178, 179, 180, 181, 182, 183, 184, 185, 186, 187, 188, 189, 190, 191, 192, 193, 194, 195, 196, 197, 198, 199, 200, 201, 202, 203, 204, 205, 206, 207, 208, 209, 210, 211, 212, 213, 214, 215] (fun n ws W' => ∃ j : Nat, n = (T.b i).v.length - j ∧ ws 158 = .int .i64 (j : Int) ∧ j ≤ (T.b i).v.length ∧ Mem [rowT elemV (.slice pp p.v.length cp) p.v, boxT b65 (.cells (bgC p.k (.slice pp p.v.length cp)).toArray 27 (0, 0)), rowB T.b PT 0, rowB T.b PT 1, rowB T.b PT 2, boxT b21 (.cells (b3C (hb3 T.b PT)).toArray 28 (0, 0)), oldT W0] H w W') (n0 := (T.b i).v.length) ?_ ?_
        · exact ⟨0, rfl, rfl, Nat.zero_le _, (Mem.only (M := [_, _, _, _, _, _, _]) HM118.out [0, 0, 0, 0, 0, 0, 0] rfl)⟩
        rintro n ws W' ⟨j, rfl, e158, hj, hm2⟩
        simp only [putAll, List.map_cons, List.map_nil, Act.put, List.setIfInBounds_toArray, List.set_cons_succ, List.set_cons_zero]
        rw [e158]
        clear e158
        have HM119 := Lib.hid hm2
        clear hm2
        refine wp_seq ?_
        refine wp_region_N [(0, 1)] (by kernel_rfl) ?_
        refine wpS_this [0] rfl (by kernel_rfl) (by simp only [pickL, nthL, List.cons_append, List.nil_append]; rfl) ?_
        repeat (go_big_quiet_step (fail))
        refine wpQuiet_nil ?_
        refine wpS_nil ?_
        refine then_normal ?_
        refine wp_seq ?_
        refine wp_cond_split rfl (fun h120 => ?_) (fun h120 => ?_)
        · have hj1 : j + 1 ≤ (T.b i).v.length := by have : (j : Int) < (((T.b i).v.length : Nat) : Int) := (by simpa using h120); omega
          clear h120
          obtain ⟨y, hy'⟩ : ∃ y, (T.b i).v[j]? = some y := ⟨_, List.getElem?_eq_getElem (hj1)⟩
          have hy := Lib.hid hy'
          clear hy'
          refine wp_skip ?_
          refine then_normal ?_
          refine wp_seq ?_
          refine wp_block ?_
          refine wp_seq ?_
          refine wp_region_N [(0, 1), (1, 1), (2, 3), (3, 3)] (by kernel_rfl) ?_
          refine wpS_index (E := elemV) (i := 0) (d := some 160) rfl (by rfl) rfl rfl rfl (Mem.rowAt3 hi3 (Mem.only (M := [_, _, _]) HM119.out [2, 2, 2] rfl)) (hy.out) rfl ?_
          intro eb121 eo122 hc123
          simp only [Act.put, List.setIfInBounds_toArray, List.set_cons_succ, List.set_cons_zero]
          refine wpS_loadA (i := 1) (d := some 161) (cells := [.int .i64 y.1.1, .int .i64 y.1.2, .string y.2]) rfl (by rfl) rfl rfl hc123 Try.underlying41 rfl (by kernel_rfl) rfl ?_
          simp only [Act.put, List.setIfInBounds_toArray, List.set_cons_succ, List.set_cons_zero]
          refine wpS_alloc (i := 2) (dd := 17) (z := .agg #[.int .i64 0, .int .i64 0, .string ByteArray.empty]) (cs := #[.int .i64 0, .int .i64 0, .string ByteArray.empty]) rfl (by rfl) rfl (by kernel_rfl) rfl HM119.out covS_nil rfl ?_
          rintro b126 W125 hm124 -
          have HM127 := Lib.hid hm124
          clear hm124
          simp only [Act.put, List.setIfInBounds_toArray, List.set_cons_succ, List.set_cons_zero]
          refine wpS_storeA (i := 3) (L2 := [_, _, _, _, _, _, _]) (cs' := [.int .i64 y.1.1, .int .i64 y.1.2, .string y.2]) rfl (by rfl) rfl rfl rfl (by kernel_rfl) (by rfl) HM127.out 0 rfl rfl rfl rfl covS_nil rfl ?_
          rintro W129 hm128 -
          have HM130 := Lib.hid hm128
          clear hm128
          refine wpS_nil ?_
          refine then_normal ?_
          refine wp_seq ?_
          refine wp_region_N [(0, 1)] (by kernel_rfl) ?_
          refine wpS_this [0] rfl (by kernel_rfl) (by simp only [pickL, nthL, List.cons_append, List.nil_append]; rfl) ?_
          repeat (go_big_quiet_step (fail))
          refine wpQuiet_nil ?_
          refine wpS_nil ?_
          refine then_normal ?_
          refine wp_seq ?_
          refine wp_seq ?_
          refine wp_region_N [(0, 1), (1, 1), (2, 1), (3, 1)] (by kernel_rfl) ?_
          refine wpS_this [0] rfl (by kernel_rfl) (by simp only [pickL, nthL, List.cons_append, List.nil_append]; rfl) ?_
          repeat (go_big_quiet_step (fail))
          refine wpQuiet_nil ?_
          refine wpS_load1 (i := 1) (d := some 163) (u := .slice pp p.v.length cp) rfl (by rfl) rfl rfl (HM130.out.part1 2 rfl bgC_sl) Try.underlying25 rfl rfl ?_
          simp only [Act.put, List.setIfInBounds_toArray, List.set_cons_succ, List.set_cons_zero]
          refine wpS_this [2, 3] rfl (by kernel_rfl) (by simp only [pickL, nthL, List.cons_append, List.nil_append]; rfl) ?_
          repeat (go_big_quiet_step (fail))
          refine wpQuiet_nil ?_
          refine wpS_nil ?_
          refine then_normal ?_
          refine wp_block ?_
          refine wp_loop_F [18, 20, 165, 166, 167, 168, 169, 170, 171, 172, 173, 174, 175] (fun n ts W' => ∃ k : Nat, n = p.v.length - k ∧ ts 165 = .int .i64 (k : Int) ∧ ts 18 = .bool (heldV (p.v.take k) y) ∧ k ≤ p.v.length ∧ Mem [boxT b126 (.cells #[.int .i64 y.1.1, .int .i64 y.1.2, .string y.2] 41 (0, 0)), rowT elemV (.slice pp p.v.length cp) p.v, boxT b65 (.cells (bgC p.k (.slice pp p.v.length cp)).toArray 27 (0, 0)), rowB T.b PT 0, rowB T.b PT 1, rowB T.b PT 2, boxT b21 (.cells (b3C (hb3 T.b PT)).toArray 28 (0, 0)), oldT W0] H w W') (n0 := p.v.length) ?_ ?_
          · exact ⟨0, rfl, rfl, rfl, Nat.zero_le _, (Mem.only (M := [_, _, _, _, _, _, _, _]) HM130.out [0, 0, 0, 0, 0, 0, 0, 0] rfl)⟩
          rintro n ts W' ⟨k, rfl, e165, e18, hk, hm3⟩
          simp only [putAll, List.map_cons, List.map_nil, Act.put, List.setIfInBounds_toArray, List.set_cons_succ, List.set_cons_zero]
          rw [e165, e18]
          clear e165 e18
          obtain ⟨c, hc'⟩ := bool_letter (heldV (p.v.take k) y)
          rw [hc']
          have hc := Lib.hid hc'
          clear hc'
          have HM131 := Lib.hid hm3
          clear hm3
          refine wp_seq ?_
          refine wp_region_N [(0, 1)] (by kernel_rfl) ?_
          refine wpS_this [0] rfl (by kernel_rfl) (by simp only [pickL, nthL, List.cons_append, List.nil_append]; rfl) ?_
          repeat (go_big_quiet_step (fail))
          refine wpQuiet_nil ?_
          refine wpS_nil ?_
          refine then_normal ?_
          refine wp_seq ?_
          refine wp_cond_split rfl (fun h132 => ?_) (fun h132 => ?_)
          · have hk1 : k + 1 ≤ p.v.length := by have : (k : Int) < ((p.v.length : Nat) : Int) := (by simpa using h132); omega
            clear h132
            obtain ⟨u, hu'⟩ : ∃ y, p.v[k]? = some y := ⟨_, List.getElem?_eq_getElem (hk1)⟩
            have hu := Lib.hid hu'
            clear hu'
            refine wp_skip ?_
            refine then_normal ?_
            refine wp_seq ?_
            refine wp_block ?_
            refine wp_seq ?_
            refine wp_region_N [(0, 1), (1, 1), (2, 3), (3, 3)] (by kernel_rfl) ?_
            refine wpS_index (E := elemV) (i := 0) (d := some 167) rfl (by rfl) rfl rfl rfl (HM131.out.row 1 rfl vRow) (hu.out) rfl ?_
            intro eb133 eo134 hc135
            simp only [Act.put, List.setIfInBounds_toArray, List.set_cons_succ, List.set_cons_zero]
            refine wpS_loadA (i := 1) (d := some 168) (cells := [.int .i64 u.1.1, .int .i64 u.1.2, .string u.2]) rfl (by rfl) rfl rfl hc135 Try.underlying41 rfl (by kernel_rfl) rfl ?_
            simp only [Act.put, List.setIfInBounds_toArray, List.set_cons_succ, List.set_cons_zero]
            refine wpS_alloc (i := 2) (dd := 20) (z := .agg #[.int .i64 0, .int .i64 0, .string ByteArray.empty]) (cs := #[.int .i64 0, .int .i64 0, .string ByteArray.empty]) rfl (by rfl) rfl (by kernel_rfl) rfl HM131.out covS_nil rfl ?_
            rintro b138 W137 hm136 -
            have HM139 := Lib.hid hm136
            clear hm136
            simp only [Act.put, List.setIfInBounds_toArray, List.set_cons_succ, List.set_cons_zero]
            refine wpS_storeA (i := 3) (L2 := [_, _, _, _, _, _, _, _]) (cs' := [.int .i64 u.1.1, .int .i64 u.1.2, .string u.2]) rfl (by rfl) rfl rfl rfl (by kernel_rfl) (by rfl) HM139.out 0 rfl rfl rfl rfl covS_nil rfl ?_
            rintro W141 hm140 -
            have HM142 := Lib.hid hm140
            clear hm140
            refine wpS_nil ?_
            refine then_normal ?_
            rcases (show c = true ∨ (c = false ∧ u = y) ∨ (c = false ∧ u ≠ y) from by cases c <;> by_cases h0 : u = y <;> simp [h0]) with rfl | ⟨rfl, he⟩ | ⟨rfl, he⟩
            · refine wp_region_N [(0, 1), (1, 1), (2, 1), (3, 1), (4, 1), (5, 1), (6, 1)] (by kernel_rfl) ?_
              have Cb20 := Mem.cell HM142.out 0 rfl
              have Cb17 := Mem.cell HM142.out 1 rfl
              refine wpS_this [0, 1, 2, 3] rfl (by kernel_rfl) (by simp only [pickL, nthL, List.cons_append, List.nil_append]; rfl) ?_
              repeat (go_big_quiet_step (fail))
              refine wpQuiet_nil ?_
              clear Cb20 Cb17
              refine wpS_skip (i := 4) (d := some 173) rfl (by rfl) rfl ?_
              simp only [Act.put, List.setIfInBounds_toArray, List.set_cons_succ, List.set_cons_zero]
              refine wpS_this [5, 6] rfl (by kernel_rfl) (by simp only [pickL, nthL, List.cons_append, List.nil_append]; rfl) ?_
              repeat (go_big_quiet_step (fail))
              refine wpQuiet_nil ?_
              refine wpS_nil ?_
              refine block_normal ?_
              refine then_normal ?_
              refine wp_region_N [(0, 1), (1, 1)] (by kernel_rfl) ?_
              refine wpS_this [0, 1] rfl (by kernel_rfl) (by simp only [pickL, nthL, List.cons_append, List.nil_append]; rfl) ?_
              repeat (go_big_quiet_step (fail))
              refine wpQuiet_nil ?_
              refine wpS_nil ?_
              refine then_normal ?_
              refine ⟨by kernel_rfl, ?_⟩
              refine ⟨p.v.length - (k + 1), by omega, k + 1, rfl, rfl, ?_, hk1, (Mem.only (M := [_, _, _, _, _, _, _, _]) HM142.out [1, 1, 1, 1, 1, 1, 1, 1] rfl)⟩
              rw [heldV_step hu.out y, hc.out]
              rfl
            · have g1 := decide_eq_true he
              replace he := Lib.hid he
              refine wp_region_N [(0, 1), (1, 1), (2, 1), (3, 1), (4, 1), (5, 1), (6, 1)] (by kernel_rfl) ?_
              have Cb20 := Mem.cell HM142.out 0 rfl
              have Cb17 := Mem.cell HM142.out 1 rfl
              refine wpS_this [0, 1, 2, 3] rfl (by kernel_rfl) (by simp only [pickL, nthL, List.cons_append, List.nil_append]; rfl) ?_
              repeat (go_big_quiet_step (fail))
              refine wpQuiet_nil ?_
              clear Cb20 Cb17
              refine wpS_read (i := 4) (d := some 173) rfl (by rfl) (run_eqVl (g1) rfl rfl rfl) rfl ?_
              simp only [Act.put, List.setIfInBounds_toArray, List.set_cons_succ, List.set_cons_zero]
              refine wpS_this [5, 6] rfl (by kernel_rfl) (by simp only [pickL, nthL, List.cons_append, List.nil_append]; rfl) ?_
              repeat (go_big_quiet_step (fail))
              refine wpQuiet_nil ?_
              refine wpS_nil ?_
              refine block_normal ?_
              refine then_normal ?_
              refine wp_region_N [(0, 1), (1, 1)] (by kernel_rfl) ?_
              refine wpS_this [0, 1] rfl (by kernel_rfl) (by simp only [pickL, nthL, List.cons_append, List.nil_append]; rfl) ?_
              repeat (go_big_quiet_step (fail))
              refine wpQuiet_nil ?_
              refine wpS_nil ?_
              refine then_normal ?_
              refine ⟨by kernel_rfl, ?_⟩
              refine ⟨p.v.length - (k + 1), by omega, k + 1, rfl, rfl, ?_, hk1, (Mem.only (M := [_, _, _, _, _, _, _, _]) HM142.out [1, 1, 1, 1, 1, 1, 1, 1] rfl)⟩
              rw [heldV_step hu.out y, hc.out]
              rw [decide_eq_true he.out]
              rfl
            · have g1 := decide_eq_false he
              replace he := Lib.hid he
              refine wp_region_N [(0, 1), (1, 1), (2, 1), (3, 1), (4, 1), (5, 1), (6, 1)] (by kernel_rfl) ?_
              have Cb20 := Mem.cell HM142.out 0 rfl
              have Cb17 := Mem.cell HM142.out 1 rfl
              refine wpS_this [0, 1, 2, 3] rfl (by kernel_rfl) (by simp only [pickL, nthL, List.cons_append, List.nil_append]; rfl) ?_
              repeat (go_big_quiet_step (fail))
              refine wpQuiet_nil ?_
              clear Cb20 Cb17
              refine wpS_read (i := 4) (d := some 173) rfl (by rfl) (run_eqVl (g1) rfl rfl rfl) rfl ?_
              simp only [Act.put, List.setIfInBounds_toArray, List.set_cons_succ, List.set_cons_zero]
              refine wpS_this [5, 6] rfl (by kernel_rfl) (by simp only [pickL, nthL, List.cons_append, List.nil_append]; rfl) ?_
              repeat (go_big_quiet_step (fail))
              refine wpQuiet_nil ?_
              refine wpS_nil ?_
              refine block_normal ?_
              refine then_normal ?_
              refine wp_region_N [(0, 1), (1, 1)] (by kernel_rfl) ?_
              refine wpS_this [0, 1] rfl (by kernel_rfl) (by simp only [pickL, nthL, List.cons_append, List.nil_append]; rfl) ?_
              repeat (go_big_quiet_step (fail))
              refine wpQuiet_nil ?_
              refine wpS_nil ?_
              refine then_normal ?_
              refine ⟨by kernel_rfl, ?_⟩
              refine ⟨p.v.length - (k + 1), by omega, k + 1, rfl, rfl, ?_, hk1, (Mem.only (M := [_, _, _, _, _, _, _, _]) HM142.out [1, 1, 1, 1, 1, 1, 1, 1] rfl)⟩
              rw [heldV_step hu.out y, hc.out]
              rw [decide_eq_false he.out]
              rfl
          · have hgek : Hid (p.v.length ≤ k) := Lib.hid (by have : ¬ (k : Int) < ((p.v.length : Nat) : Int) := (by simpa using h132); omega)
            clear h132
            refine wp_exit ?_
            refine then_exit (then_exit (block_exit ?_))
            refine then_normal ?_
            refine wp_seq ?_
            refine wp_region_N [(0, 1)] (by kernel_rfl) ?_
            refine wpS_this [0] rfl (by kernel_rfl) (by simp only [pickL, nthL, List.cons_append, List.nil_append]; rfl) ?_
            repeat (go_big_quiet_step (fail))
            refine wpQuiet_nil ?_
            refine wpS_nil ?_
            refine then_normal ?_
            refine wp_seq ?_
            refine wp_seq ?_
            refine wp_region_N [(0, 1)] (by kernel_rfl) ?_
            refine wpS_this [0] rfl (by kernel_rfl) (by simp only [pickL, nthL, List.cons_append, List.nil_append]; rfl) ?_
            repeat (go_big_quiet_step (fail))
            refine wpQuiet_nil ?_
            refine wpS_nil ?_
            refine then_normal ?_
            refine wp_block ?_
            refine wp_loop_F [21, 22, 23, 25, 176, 177, 178, 179, 180, 181, 182, 183, 184, 185, 186, 187, 188, 189, 190, 191, 192, 193, 194, 195, 196, 197, 198, 199, 200, 201, 202, 203, 204, 205, 206, 207, 208, 209, 210, 211] (fun n us W' => ∃ o : Nat, n = 3 - o ∧ us 176 = .int .i64 (o : Int) ∧ us 21 = .bool (knB T.b y.1 o) ∧ o ≤ 3 ∧ Mem [boxT b126 (.cells #[.int .i64 y.1.1, .int .i64 y.1.2, .string y.2] 41 (0, 0)), rowT elemV (.slice pp p.v.length cp) p.v, boxT b65 (.cells (bgC p.k (.slice pp p.v.length cp)).toArray 27 (0, 0)), rowB T.b PT 0, rowB T.b PT 1, rowB T.b PT 2, boxT b21 (.cells (b3C (hb3 T.b PT)).toArray 28 (0, 0)), oldT W0] H w W') (n0 := 3) ?_ ?_
            · exact ⟨0, rfl, rfl, rfl, Nat.zero_le _, (Mem.only (M := [_, _, _, _, _, _, _, _]) HM131.out [0, 0, 0, 0, 0, 0, 0, 0] rfl)⟩
            rintro n us W' ⟨o, rfl, e176, e21, ho, hm4⟩
            simp only [putAll, List.map_cons, List.map_nil, Act.put, List.setIfInBounds_toArray, List.set_cons_succ, List.set_cons_zero]
            rw [e176, e21]
            clear e176 e21
            obtain ⟨d, hd'⟩ := bool_letter (knB T.b y.1 o)
            rw [hd']
            have hd := Lib.hid hd'
            clear hd'
            have HM143 := Lib.hid hm4
            clear hm4
            refine wp_seq ?_
            refine wp_region_N [(0, 1)] (by kernel_rfl) ?_
            refine wpS_this [0] rfl (by kernel_rfl) (by simp only [pickL, nthL, List.cons_append, List.nil_append]; rfl) ?_
            repeat (go_big_quiet_step (fail))
            refine wpQuiet_nil ?_
            refine wpS_nil ?_
            refine then_normal ?_
            refine wp_seq ?_
            refine wp_cond_split rfl (fun h144 => ?_) (fun h144 => ?_)
            · have ho1 : o + 1 ≤ 3 := by have : (o : Int) < 3 := (by simpa using h144); omega
              have ho3 : o < 3 := ho1
              clear h144
              refine wp_skip ?_
              refine then_normal ?_
              refine wp_seq ?_
              refine wp_block ?_
              refine wp_seq ?_
              refine wp_region_N [(0, 1), (1, 1)] (by kernel_rfl) ?_
              refine wpS_this [0, 1] rfl (by kernel_rfl) (by simp only [pickL, nthL, List.cons_append, List.nil_append]; rfl) ?_
              repeat (go_big_quiet_step (fail))
              refine wpQuiet_nil ?_
              refine wpS_nil ?_
              refine then_normal ?_
              refine wp_seq ?_
              refine wp_region_N [(0, 1)] (by kernel_rfl) ?_
              refine wpS_this [0] rfl (by kernel_rfl) (by simp only [pickL, nthL, List.cons_append, List.nil_append]; rfl) ?_
              repeat (go_big_quiet_step (fail))
              refine wpQuiet_nil ?_
              refine wpS_nil ?_
              refine then_normal ?_
              refine wp_seq ?_
              refine wp_seq ?_
              have lTo : (T.b o).v.length ≤ 32 := (hI.out.may o ho3).len
              refine wp_region_N [(0, 1), (1, 1), (2, 1), (3, 1), (4, 1), (5, 1)] (by kernel_rfl) ?_
              refine wpS_this [0] rfl (by kernel_rfl) (by simp only [pickL, nthL, List.cons_append, List.nil_append]; rfl) ?_
              repeat (go_big_quiet_step (fail))
              refine wpQuiet_nil ?_
              refine wpS_read (i := 1) (d := some 180) rfl (by rfl) (run_addrB3 ho3 rfl rfl rfl) rfl ?_
              simp only [Act.put, List.setIfInBounds_toArray, List.set_cons_succ, List.set_cons_zero]
              refine wpS_this [2] rfl (by kernel_rfl) (by simp only [pickL, nthL, List.cons_append, List.nil_append]; rfl) ?_
              repeat (go_big_quiet_step (fail))
              refine wpQuiet_nil ?_
              refine wpS_load1 (i := 3) (d := some 182) (u := .slice (PT o).1 (T.b o).v.length (PT o).2) rfl (by rfl) rfl rfl (HM143.out.part1 6 rfl (b3C_sub ho3 8 _ bgC_sl)) Try.underlying25 rfl rfl ?_
              simp only [Act.put, List.setIfInBounds_toArray, List.set_cons_succ, List.set_cons_zero]
              refine wpS_this [4, 5] rfl (by kernel_rfl) (by simp only [pickL, nthL, List.cons_append, List.nil_append]; rfl) ?_
              repeat (go_big_quiet_step (fail))
              refine wpQuiet_nil ?_
              refine wpS_nil ?_
              refine then_normal ?_
              refine wp_block ?_
              refine wp_loop_F [23, 25, 184, 185, 186, 187, 188, 189, 190, 191, 192, 193, 194, 195, 196] (fun n xs W' => ∃ r : Nat, n = (T.b o).v.length - r ∧ xs 184 = .int .i64 (r : Int) ∧ xs 23 = .bool (heldL ((T.b o).v.take r) y.1) ∧ r ≤ (T.b o).v.length ∧ Mem [boxT b126 (.cells #[.int .i64 y.1.1, .int .i64 y.1.2, .string y.2] 41 (0, 0)), rowT elemV (.slice pp p.v.length cp) p.v, boxT b65 (.cells (bgC p.k (.slice pp p.v.length cp)).toArray 27 (0, 0)), rowB T.b PT 0, rowB T.b PT 1, rowB T.b PT 2, boxT b21 (.cells (b3C (hb3 T.b PT)).toArray 28 (0, 0)), oldT W0] H w W') (n0 := (T.b o).v.length) ?_ ?_
              · exact ⟨0, rfl, rfl, rfl, Nat.zero_le _, (Mem.only (M := [_, _, _, _, _, _, _, _]) HM143.out [0, 0, 0, 0, 0, 0, 0, 0] rfl)⟩
              rintro n xs W' ⟨r, rfl, e184, e23, hr, hm5⟩
              simp only [putAll, List.map_cons, List.map_nil, Act.put, List.setIfInBounds_toArray, List.set_cons_succ, List.set_cons_zero]
              rw [e184, e23]
              clear e184 e23
              obtain ⟨a, ha'⟩ := bool_letter (heldL ((T.b o).v.take r) y.1)
              rw [ha']
              have ha := Lib.hid ha'
              clear ha'
              have HM145 := Lib.hid hm5
              clear hm5
              refine wp_seq ?_
              refine wp_region_N [(0, 1)] (by kernel_rfl) ?_
              refine wpS_this [0] rfl (by kernel_rfl) (by simp only [pickL, nthL, List.cons_append, List.nil_append]; rfl) ?_
              repeat (go_big_quiet_step (fail))
              refine wpQuiet_nil ?_
              refine wpS_nil ?_
              refine then_normal ?_
              refine wp_seq ?_
              refine wp_cond_split rfl (fun h146 => ?_) (fun h146 => ?_)
              · have hr1 : r + 1 ≤ (T.b o).v.length := by have : (r : Int) < (((T.b o).v.length : Nat) : Int) := (by simpa using h146); omega
                clear h146
                obtain ⟨t, ht'⟩ : ∃ y, (T.b o).v[r]? = some y := ⟨_, List.getElem?_eq_getElem (hr1)⟩
                have ht := Lib.hid ht'
                clear ht'
                refine wp_skip ?_
                refine then_normal ?_
                refine wp_seq ?_
                refine wp_block ?_
                refine wp_seq ?_
                refine wp_region_N [(0, 1), (1, 1), (2, 3), (3, 3)] (by kernel_rfl) ?_
                refine wpS_index (E := elemV) (i := 0) (d := some 186) rfl (by rfl) rfl rfl rfl (Mem.rowAt3 ho3 (Mem.only (M := [_, _, _]) HM145.out [3, 3, 3] rfl)) (ht.out) rfl ?_
                intro eb147 eo148 hc149
                simp only [Act.put, List.setIfInBounds_toArray, List.set_cons_succ, List.set_cons_zero]
                refine wpS_loadA (i := 1) (d := some 187) (cells := [.int .i64 t.1.1, .int .i64 t.1.2, .string t.2]) rfl (by rfl) rfl rfl hc149 Try.underlying41 rfl (by kernel_rfl) rfl ?_
                simp only [Act.put, List.setIfInBounds_toArray, List.set_cons_succ, List.set_cons_zero]
                refine wpS_alloc (i := 2) (dd := 25) (z := .agg #[.int .i64 0, .int .i64 0, .string ByteArray.empty]) (cs := #[.int .i64 0, .int .i64 0, .string ByteArray.empty]) rfl (by rfl) rfl (by kernel_rfl) rfl HM145.out covS_nil rfl ?_
                rintro b152 W151 hm150 -
                have HM153 := Lib.hid hm150
                clear hm150
                simp only [Act.put, List.setIfInBounds_toArray, List.set_cons_succ, List.set_cons_zero]
                refine wpS_storeA (i := 3) (L2 := [_, _, _, _, _, _, _, _]) (cs' := [.int .i64 t.1.1, .int .i64 t.1.2, .string t.2]) rfl (by rfl) rfl rfl rfl (by kernel_rfl) (by rfl) HM153.out 0 rfl rfl rfl rfl covS_nil rfl ?_
                rintro W155 hm154 -
                have HM156 := Lib.hid hm154
                clear hm154
                refine wpS_nil ?_
                refine then_normal ?_
                rcases (show a = true ∨ (a = false ∧ t.1 = y.1) ∨ (a = false ∧ t.1 ≠ y.1) from by cases a <;> by_cases h0 : t.1 = y.1 <;> simp [h0]) with rfl | ⟨rfl, he⟩ | ⟨rfl, he⟩
                · refine wp_region_N [(0, 1), (1, 1), (2, 1), (3, 1), (4, 1), (5, 1), (6, 1), (7, 1), (8, 1)] (by kernel_rfl) ?_
                  have Cb25 := Mem.cell HM156.out 0 rfl
                  have Cb17 := Mem.cell HM156.out 1 rfl
                  refine wpS_this [0, 1, 2, 3, 4, 5] rfl (by kernel_rfl) (by simp only [pickL, nthL, List.cons_append, List.nil_append]; rfl) ?_
                  repeat (go_big_quiet_step (fail))
                  refine wpQuiet_nil ?_
                  clear Cb25 Cb17
                  refine wpS_skip (i := 6) (d := some 194) rfl (by rfl) rfl ?_
                  simp only [Act.put, List.setIfInBounds_toArray, List.set_cons_succ, List.set_cons_zero]
                  refine wpS_this [7, 8] rfl (by kernel_rfl) (by simp only [pickL, nthL, List.cons_append, List.nil_append]; rfl) ?_
                  repeat (go_big_quiet_step (fail))
                  refine wpQuiet_nil ?_
                  refine wpS_nil ?_
                  refine block_normal ?_
                  refine then_normal ?_
                  refine wp_region_N [(0, 1), (1, 1)] (by kernel_rfl) ?_
                  refine wpS_this [0, 1] rfl (by kernel_rfl) (by simp only [pickL, nthL, List.cons_append, List.nil_append]; rfl) ?_
                  repeat (go_big_quiet_step (fail))
                  refine wpQuiet_nil ?_
                  refine wpS_nil ?_
                  refine then_normal ?_
                  refine ⟨by kernel_rfl, ?_⟩
                  refine ⟨(T.b o).v.length - (r + 1), by omega, r + 1, rfl, rfl, ?_, hr1, (Mem.only (M := [_, _, _, _, _, _, _, _]) HM156.out [1, 1, 1, 1, 1, 1, 1, 1] rfl)⟩
                  rw [heldL_step ht.out y.1, ha.out]
                  rfl
                · have g1 := decide_eq_true he
                  replace he := Lib.hid he
                  refine wp_region_N [(0, 1), (1, 1), (2, 1), (3, 1), (4, 1), (5, 1), (6, 1), (7, 1), (8, 1)] (by kernel_rfl) ?_
                  have Cb25 := Mem.cell HM156.out 0 rfl
                  have Cb17 := Mem.cell HM156.out 1 rfl
                  refine wpS_this [0, 1, 2, 3, 4, 5] rfl (by kernel_rfl) (by simp only [pickL, nthL, List.cons_append, List.nil_append]; rfl) ?_
                  repeat (go_big_quiet_step (fail))
                  refine wpQuiet_nil ?_
                  clear Cb25 Cb17
                  refine wpS_read (i := 6) (d := some 194) rfl (by rfl) (run_eqDb (p := (t.1.1, t.1.2)) (q := (y.1.1, y.1.2)) (g1) rfl rfl rfl) rfl ?_
                  simp only [Act.put, List.setIfInBounds_toArray, List.set_cons_succ, List.set_cons_zero]
                  refine wpS_this [7, 8] rfl (by kernel_rfl) (by simp only [pickL, nthL, List.cons_append, List.nil_append]; rfl) ?_
                  repeat (go_big_quiet_step (fail))
                  refine wpQuiet_nil ?_
                  refine wpS_nil ?_
                  refine block_normal ?_
                  refine then_normal ?_
                  refine wp_region_N [(0, 1), (1, 1)] (by kernel_rfl) ?_
                  refine wpS_this [0, 1] rfl (by kernel_rfl) (by simp only [pickL, nthL, List.cons_append, List.nil_append]; rfl) ?_
                  repeat (go_big_quiet_step (fail))
                  refine wpQuiet_nil ?_
                  refine wpS_nil ?_
                  refine then_normal ?_
                  refine ⟨by kernel_rfl, ?_⟩
                  refine ⟨(T.b o).v.length - (r + 1), by omega, r + 1, rfl, rfl, ?_, hr1, (Mem.only (M := [_, _, _, _, _, _, _, _]) HM156.out [1, 1, 1, 1, 1, 1, 1, 1] rfl)⟩
                  rw [heldL_step ht.out y.1, ha.out]
                  rw [decide_eq_true he.out]
                  rfl
                · have g1 := decide_eq_false he
                  replace he := Lib.hid he
                  refine wp_region_N [(0, 1), (1, 1), (2, 1), (3, 1), (4, 1), (5, 1), (6, 1), (7, 1), (8, 1)] (by kernel_rfl) ?_
                  have Cb25 := Mem.cell HM156.out 0 rfl
                  have Cb17 := Mem.cell HM156.out 1 rfl
                  refine wpS_this [0, 1, 2, 3, 4, 5] rfl (by kernel_rfl) (by simp only [pickL, nthL, List.cons_append, List.nil_append]; rfl) ?_
                  repeat (go_big_quiet_step (fail))
                  refine wpQuiet_nil ?_
                  clear Cb25 Cb17
                  refine wpS_read (i := 6) (d := some 194) rfl (by rfl) (run_eqDb (p := (t.1.1, t.1.2)) (q := (y.1.1, y.1.2)) (g1) rfl rfl rfl) rfl ?_
                  simp only [Act.put, List.setIfInBounds_toArray, List.set_cons_succ, List.set_cons_zero]
                  refine wpS_this [7, 8] rfl (by kernel_rfl) (by simp only [pickL, nthL, List.cons_append, List.nil_append]; rfl) ?_
                  repeat (go_big_quiet_step (fail))
                  refine wpQuiet_nil ?_
                  refine wpS_nil ?_
                  refine block_normal ?_
                  refine then_normal ?_
                  refine wp_region_N [(0, 1), (1, 1)] (by kernel_rfl) ?_
                  refine wpS_this [0, 1] rfl (by kernel_rfl) (by simp only [pickL, nthL, List.cons_append, List.nil_append]; rfl) ?_
                  repeat (go_big_quiet_step (fail))
                  refine wpQuiet_nil ?_
                  refine wpS_nil ?_
                  refine then_normal ?_
                  refine ⟨by kernel_rfl, ?_⟩
                  refine ⟨(T.b o).v.length - (r + 1), by omega, r + 1, rfl, rfl, ?_, hr1, (Mem.only (M := [_, _, _, _, _, _, _, _]) HM156.out [1, 1, 1, 1, 1, 1, 1, 1] rfl)⟩
                  rw [heldL_step ht.out y.1, ha.out]
                  rw [decide_eq_false he.out]
                  rfl
              · have hger : Hid ((T.b o).v.length ≤ r) := Lib.hid (by have : ¬ (r : Int) < (((T.b o).v.length : Nat) : Int) := (by simpa using h146); omega)
                clear h146
                refine wp_exit ?_
                refine then_exit (then_exit (block_exit ?_))
                refine then_normal ?_
                have hao0 : heldL (T.b o).v y.1 = a := by rw [← ha.out, List.take_of_length_le hger.out]
                rcases (show d = true ∨ (d = false ∧ a = true) ∨ (d = false ∧ a = false) from by cases d <;> cases a <;> simp) with rfl | ⟨rfl, rfl⟩ | ⟨rfl, rfl⟩
                · have hao := Lib.hid hao0
                  clear hao0
                  refine wp_region_M (fun k => k ∈ ([] : List Nat)) [(0, 1), (1, 1), (2, 1), (3, 1), (4, 1), (5, 1), (6, 1), (7, 1), (8, 1), (9, 1), (10, 1), (11, 3), (12, 1), (13, 1), (14, 1)] (by kernel_rfl) (by kernel_rfl) HM145.out ?_
                  intro W157 hm158
                  have HM159 := Lib.hid hm158
                  clear hm158
                  refine wpS_this [0, 1, 2, 3, 4, 5] rfl (by kernel_rfl) (by simp only [pickL, nthL, List.cons_append, List.nil_append]; rfl) ?_
                  repeat (go_big_quiet_step (fail))
                  refine wpQuiet_nil ?_
                  refine wpS_skip (i := 6) (d := some 203) rfl (by rfl) rfl ?_
                  simp only [Act.put, List.setIfInBounds_toArray, List.set_cons_succ, List.set_cons_zero]
                  have Cb17 := Mem.cell HM159.out 0 rfl
                  refine wpS_this [7, 8, 9, 10] rfl (by kernel_rfl) (by simp only [pickL, nthL, List.cons_append, List.nil_append]; rfl) ?_
                  repeat (go_big_quiet_step (fail))
                  refine wpQuiet_nil ?_
                  clear Cb17
                  refine wpS_skip (i := 11) (d := some 208) rfl (by rfl) rfl ?_
                  simp only [Act.put, List.setIfInBounds_toArray, List.set_cons_succ, List.set_cons_zero]
                  refine wpS_this [12, 13, 14] rfl (by kernel_rfl) (by simp only [pickL, nthL, List.cons_append, List.nil_append]; rfl) ?_
                  repeat (go_big_quiet_step (fail))
                  refine wpQuiet_nil ?_
                  refine wpS_nil ?_
                  refine block_normal ?_
                  refine then_normal ?_
                  refine wp_region_N [(0, 1), (1, 1)] (by kernel_rfl) ?_
                  refine wpS_this [0, 1] rfl (by kernel_rfl) (by simp only [pickL, nthL, List.cons_append, List.nil_append]; rfl) ?_
                  repeat (go_big_quiet_step (fail))
                  refine wpQuiet_nil ?_
                  refine wpS_nil ?_
                  refine then_normal ?_
                  refine ⟨by kernel_rfl, ?_⟩
                  refine ⟨3 - (o + 1), by omega, o + 1, rfl, rfl, ?_, ho1, (Mem.only (M := [_, _, _, _, _, _, _, _]) HM159.out [0, 0, 0, 0, 0, 0, 0, 0] rfl)⟩
                  rw [show knB T.b y.1 (o + 1) = (knB T.b y.1 o || (!heldL (T.b o).v y.1 && hasV (T.b o).k y.1)) from rfl, hd.out]
                  rfl
                · have hao := Lib.hid hao0
                  clear hao0
                  refine wp_region_M (fun k => k ∈ ([] : List Nat)) [(0, 1), (1, 1), (2, 1), (3, 1), (4, 1), (5, 1), (6, 1), (7, 1), (8, 1), (9, 1), (10, 1), (11, 3), (12, 1), (13, 1), (14, 1)] (by kernel_rfl) (by kernel_rfl) HM145.out ?_
                  intro W160 hm161
                  have HM162 := Lib.hid hm161
                  clear hm161
                  refine wpS_this [0, 1, 2, 3, 4, 5] rfl (by kernel_rfl) (by simp only [pickL, nthL, List.cons_append, List.nil_append]; rfl) ?_
                  repeat (go_big_quiet_step (fail))
                  refine wpQuiet_nil ?_
                  refine wpS_skip (i := 6) (d := some 203) rfl (by rfl) rfl ?_
                  simp only [Act.put, List.setIfInBounds_toArray, List.set_cons_succ, List.set_cons_zero]
                  have Cb17 := Mem.cell HM162.out 0 rfl
                  refine wpS_this [7, 8, 9, 10] rfl (by kernel_rfl) (by simp only [pickL, nthL, List.cons_append, List.nil_append]; rfl) ?_
                  repeat (go_big_quiet_step (fail))
                  refine wpQuiet_nil ?_
                  clear Cb17
                  refine wpS_skip (i := 11) (d := some 208) rfl (by rfl) rfl ?_
                  simp only [Act.put, List.setIfInBounds_toArray, List.set_cons_succ, List.set_cons_zero]
                  refine wpS_this [12, 13, 14] rfl (by kernel_rfl) (by simp only [pickL, nthL, List.cons_append, List.nil_append]; rfl) ?_
                  repeat (go_big_quiet_step (fail))
                  refine wpQuiet_nil ?_
                  refine wpS_nil ?_
                  refine block_normal ?_
                  refine then_normal ?_
                  refine wp_region_N [(0, 1), (1, 1)] (by kernel_rfl) ?_
                  refine wpS_this [0, 1] rfl (by kernel_rfl) (by simp only [pickL, nthL, List.cons_append, List.nil_append]; rfl) ?_
                  repeat (go_big_quiet_step (fail))
                  refine wpQuiet_nil ?_
                  refine wpS_nil ?_
                  refine then_normal ?_
                  refine ⟨by kernel_rfl, ?_⟩
                  refine ⟨3 - (o + 1), by omega, o + 1, rfl, rfl, ?_, ho1, (Mem.only (M := [_, _, _, _, _, _, _, _]) HM162.out [0, 0, 0, 0, 0, 0, 0, 0] rfl)⟩
                  rw [show knB T.b y.1 (o + 1) = (knB T.b y.1 o || (!heldL (T.b o).v y.1 && hasV (T.b o).k y.1)) from rfl, hd.out, hao.out]
                  rfl
                · have hao := Lib.hid hao0
                  clear hao0
                  obtain ⟨b, hb'⟩ := bool_letter (hasV (T.b o).k (y.1.1, y.1.2))
                  have hb := Lib.hid hb'
                  clear hb'
                  refine wp_region_M (fun k => k ∈ ([] : List Nat)) [(0, 1), (1, 1), (2, 1), (3, 1), (4, 1), (5, 1), (6, 1), (7, 1), (8, 1), (9, 1), (10, 1), (11, 3), (12, 1), (13, 1), (14, 1)] (by kernel_rfl) (by kernel_rfl) HM145.out ?_
                  intro W163 hm164
                  have HM165 := Lib.hid hm164
                  clear hm164
                  refine wpS_this [0, 1, 2, 3, 4, 5] rfl (by kernel_rfl) (by simp only [pickL, nthL, List.cons_append, List.nil_append]; rfl) ?_
                  repeat (go_big_quiet_step (fail))
                  refine wpQuiet_nil ?_
                  refine wpS_read (i := 6) (d := some 203) rfl (by rfl) (run_addrB3 ho3 rfl rfl rfl) rfl ?_
                  simp only [Act.put, List.setIfInBounds_toArray, List.set_cons_succ, List.set_cons_zero]
                  refine wpS_this [7] rfl (by kernel_rfl) (by simp only [pickL, nthL, List.cons_append, List.nil_append]; rfl) ?_
                  repeat (go_big_quiet_step (fail))
                  refine wpQuiet_nil ?_
                  refine wpS_loadA (i := 8) (d := some 205) (cells := vcC ((hb3 T.b PT) o).f) rfl (by rfl) rfl rfl (HM165.out.part 6 rfl (b3C_vc ho3)) Try.underlying24 rfl (by kernel_rfl) rfl ?_
                  simp only [Act.put, List.setIfInBounds_toArray, List.set_cons_succ, List.set_cons_zero]
                  have Cb17 := Mem.cell HM165.out 0 rfl
                  refine wpS_this [9, 10] rfl (by kernel_rfl) (by simp only [pickL, nthL, List.cons_append, List.nil_append]; rfl) ?_
                  repeat (go_big_quiet_step (fail))
                  refine wpQuiet_nil ?_
                  clear Cb17
                  refine wpS_does2 (i := 11) (d := some 208) (rem := [_, _, _, _, _, _, _, _]) (out := [_, _, _, _, _, _, _, _]) rfl (by rfl) rfl Try.call14 (chas_d (T.b o).k y.1.1 y.1.2) rfl rfl HM165.out [] rfl covS_nil rfl rfl ?_
                  rintro W167 hm166 -
                  rw [hb.out]
                  have HM168 := Lib.hid hm166
                  clear hm166
                  simp only [Act.put, List.setIfInBounds_toArray, List.set_cons_succ, List.set_cons_zero]
                  refine wpS_this [12, 13, 14] rfl (by kernel_rfl) (by simp only [pickL, nthL, List.cons_append, List.nil_append]; rfl) ?_
                  repeat (go_big_quiet_step (fail))
                  refine wpQuiet_nil ?_
                  refine wpS_nil ?_
                  refine block_normal ?_
                  refine then_normal ?_
                  refine wp_region_N [(0, 1), (1, 1)] (by kernel_rfl) ?_
                  refine wpS_this [0, 1] rfl (by kernel_rfl) (by simp only [pickL, nthL, List.cons_append, List.nil_append]; rfl) ?_
                  repeat (go_big_quiet_step (fail))
                  refine wpQuiet_nil ?_
                  refine wpS_nil ?_
                  refine then_normal ?_
                  refine ⟨by kernel_rfl, ?_⟩
                  refine ⟨3 - (o + 1), by omega, o + 1, rfl, rfl, ?_, ho1, (Mem.only (M := [_, _, _, _, _, _, _, _]) HM168.out [0, 0, 0, 0, 0, 0, 0, 0] rfl)⟩
                  rw [show knB T.b y.1 (o + 1) = (knB T.b y.1 o || (!heldL (T.b o).v y.1 && hasV (T.b o).k y.1)) from rfl, hd.out, hao.out, show hasV (T.b o).k y.1 = b from hb.out]
                  rfl
            · have hgeo : Hid (3 ≤ o) := Lib.hid (by have : ¬ (o : Int) < 3 := (by simpa using h144); omega)
              clear h144
              refine wp_exit ?_
              refine then_exit (then_exit (block_exit ?_))
              refine then_normal ?_
              refine wp_seq ?_
              rcases (show (c = true ∧ d = false) ∨ (c = false ∧ d = true) from by
                  have h0 := hin.out i hi3 y (List.mem_of_getElem? hy.out)
                  rw [← hd.out, show o = 3 by have := hgeo.out; omega, ← hc.out, List.take_of_length_le hgek.out]
                  rw [← knB_iff, ← heldV_iff] at h0
                  cases h1 : heldV p.v y <;> cases h2 : knB T.b y.1 3 <;> simp_all) with ⟨rfl, rfl⟩ | ⟨rfl, rfl⟩
              · skip
                refine wp_region_N [(0, 1), (1, 1), (2, 1)] (by kernel_rfl) ?_
                refine wpS_this [0, 1, 2] rfl (by kernel_rfl) (by simp only [pickL, nthL, List.cons_append, List.nil_append]; rfl) ?_
                repeat (go_big_quiet_step (fail))
                refine wpQuiet_nil ?_
                refine wpS_nil ?_
                refine then_normal ?_
                refine wp_cond_false rfl ?_
                refine wp_skip ?_
                refine block_normal ?_
                refine then_normal ?_
                refine wp_region_N [(0, 1), (1, 1)] (by kernel_rfl) ?_
                refine wpS_this [0, 1] rfl (by kernel_rfl) (by simp only [pickL, nthL, List.cons_append, List.nil_append]; rfl) ?_
                repeat (go_big_quiet_step (fail))
                refine wpQuiet_nil ?_
                refine wpS_nil ?_
                refine then_normal ?_
                refine ⟨by kernel_rfl, ?_⟩
                refine ⟨(T.b i).v.length - (j + 1), by omega, j + 1, rfl, rfl, hj1, (Mem.only (M := [_, _, _, _, _, _, _]) HM143.out [1, 1, 1, 1, 1, 1, 1] rfl)⟩
              · skip
                refine wp_region_N [(0, 1), (1, 1), (2, 1)] (by kernel_rfl) ?_
                refine wpS_this [0, 1, 2] rfl (by kernel_rfl) (by simp only [pickL, nthL, List.cons_append, List.nil_append]; rfl) ?_
                repeat (go_big_quiet_step (fail))
                refine wpQuiet_nil ?_
                refine wpS_nil ?_
                refine then_normal ?_
                refine wp_cond_false rfl ?_
                refine wp_skip ?_
                refine block_normal ?_
                refine then_normal ?_
                refine wp_region_N [(0, 1), (1, 1)] (by kernel_rfl) ?_
                refine wpS_this [0, 1] rfl (by kernel_rfl) (by simp only [pickL, nthL, List.cons_append, List.nil_append]; rfl) ?_
                repeat (go_big_quiet_step (fail))
                refine wpQuiet_nil ?_
                refine wpS_nil ?_
                refine then_normal ?_
                refine ⟨by kernel_rfl, ?_⟩
                refine ⟨(T.b i).v.length - (j + 1), by omega, j + 1, rfl, rfl, hj1, (Mem.only (M := [_, _, _, _, _, _, _]) HM143.out [1, 1, 1, 1, 1, 1, 1] rfl)⟩
        · clear h120
          refine wp_exit ?_
          refine then_exit (then_exit (block_exit ?_))
          refine block_normal ?_
          refine then_normal ?_
          refine wp_region_N [(0, 1), (1, 1)] (by kernel_rfl) ?_
          refine wpS_this [0, 1] rfl (by kernel_rfl) (by simp only [pickL, nthL, List.cons_append, List.nil_append]; rfl) ?_
          repeat (go_big_quiet_step (fail))
          refine wpQuiet_nil ?_
          refine wpS_nil ?_
          refine then_normal ?_
          refine ⟨by kernel_rfl, ?_⟩
          refine ⟨3 - (i + 1), by omega, i + 1, rfl, rfl, hi1, (Mem.only (M := [_, _, _, _, _, _, _]) HM119.out [0, 0, 0, 0, 0, 0, 0] rfl)⟩
      · clear h112
        refine wp_exit ?_
        refine then_exit (then_exit (block_exit ?_))
        refine then_normal ?_
        refine wp_seq ?_
        refine wp_region_N [(0, 3), (1, 1)] (by kernel_rfl) ?_
        refine wpS_does0 (i := 0) (d := some 217) (rem := [_, _, _, _, _, _, _]) (out := [_, _, _, _, _, _, _]) rfl (by rfl) rfl Try.call8 (bawake_d)  HM111.out [] rfl covS_nil rfl rfl ?_
        rintro W170 hm169 -
        have HM171 := Lib.hid hm169
        clear hm169
        simp only [Act.put, List.setIfInBounds_toArray, List.set_cons_succ, List.set_cons_zero]
        refine wpS_this [1] rfl (by kernel_rfl) (by simp only [pickL, nthL, List.cons_append, List.nil_append]; rfl) ?_
        repeat (go_big_quiet_step (fail))
        refine wpQuiet_nil ?_
        refine wpS_nil ?_
        refine then_normal ?_
        refine wp_ret ?_
        refine bodyPost_ret (results_tmp rfl _ _ _) rfl ?_
        exact does_ret (Mem.only (M := [_]) HM171.out [6] rfl) rfl rfl

end Go.Proofs.Ytneeidedadlioaa
