/- BeliefJoins's walk. -/
import Derived.Test.YtbddjhkoikcgjaaAppend
import Derived.Deep.DeepCutAuto
import Derived.Shelf.Abstract
namespace Go.Proofs.Ytbddjhkoikcgjaa
open Go Go.RowKit

theorem mod_any (n : Int) (m : Nat) (hm : m ≤ 100) : ∃ k : Nat, k ≤ m ∧ wrap64 ((IntKind.u64.wrap n).tmod (IntKind.u64.wrap ((m : Int) + 1))) = (k : Int) ∧ wrap64 ((IntKind.u64.wrap n).tmod ((m : Int) + 1)) = (k : Int) := by
  have h0 : 0 ≤ IntKind.u64.wrap n := by
    unfold IntKind.wrap
    simp only [IntKind.signed, IntKind.bits, Bool.false_and, Bool.false_eq_true, if_false]
    exact Int.emod_nonneg _ (by decide)
  have h1 : IntKind.u64.wrap ((m : Int) + 1) = (m : Int) + 1 := by
    unfold IntKind.wrap
    simp only [IntKind.signed, IntKind.bits, Bool.false_and, Bool.false_eq_true, if_false]
    omega
  have h2 : 0 ≤ (IntKind.u64.wrap n) % ((m : Int) + 1) := Int.emod_nonneg _ (by omega)
  have h3 : (IntKind.u64.wrap n) % ((m : Int) + 1) < (m : Int) + 1 := Int.emod_lt_of_pos _ (by omega)
  rw [h1, Int.tmod_eq_emod_of_nonneg h0]
  refine ⟨((IntKind.u64.wrap n) % ((m : Int) + 1)).toNat, by omega, ?_, ?_⟩ <;> (unfold wrap64; omega)

set_option maxHeartbeats 2000000 in
set_option maxRecDepth 100000 in
theorem joins_long (v1 v2 : Value) (l m : List Cl) (n : Int) (w : World) (hl : ListAt w v1 l) (hm : ListAt w v2 m) (h1 : l.length * 24 ≤ 140737488351232) (h2 : m.length * 24 ≤ 140737488351232) (hlong : 80 < l.length + m.length) : Gives Try.prog 4 #[v1, v2, .int .i64 n] w (.bool true) := by
  unfold Gives
  have H8 := Lib.hid awake_any
  obtain ⟨p1, c1, rfl, _⟩ := hl.form
  obtain ⟨p2, c2, rfl, _⟩ := hm.form
  clear hl hm
  have hlong' : 80 < (l.length : Int) + (m.length : Int) := by omega
  go_enter Try.func4, Try.ntmps4
  go_wp2_with fail
  refine Gives.mono' (H8.out _) ?_
  intro x
  go_wp2_with fail
  go_ret
  exact ⟨rfl, Later.ex (by repeat (first | exact ext_refl _ | refine ext_alloc ?_ _ | refine ext_later ?_ _ | refine ext_drew ?_ | refine ext_drewN ?_ _))⟩

/-- The law's five views. -/
structure Five (w0 W : World) (ba bb bc bd be : Nat) (A B C D E : Vw) : Prop where
  a : ViewAt W ba A
  b : ViewAt W bb B
  c : ViewAt W bc C
  d : ViewAt W bd D
  e : ViewAt W be E
  below : Below w0.heap.size w0 W
theorem Five.later {w0 W W' : World} {ba bb bc bd be : Nat} {A B C D E : Vw} (h : Five w0 W ba bb bc bd be A B C D E) (hb : Below W.heap.size W W') : Five w0 W' ba bb bc bd be A B C D E :=
  ⟨h.a.later hb, h.b.later hb, h.c.later hb, h.d.later hb, h.e.later hb, h.below.trans (hb.mono h.below.size)⟩
theorem Five.joinC {w0 W W' : World} {ba bb bc bd be : Nat} {A B C D E C' : Vw} (h : Five w0 W ba bb bc bd be A B C D E) (h0 : w0.heap.size ≤ bc) (hac : ba < bc) (hbc : bb < bc) (hcd : bc < bd) (hce : bc < be) (hv : ViewAt W' bc C') (hg : W.grownBy W' (some bc)) : Five w0 W' ba bb bc bd be A B C' D E :=
  ⟨h.a.kept hg (by simp; omega), h.b.kept hg (by simp; omega), hv, h.d.kept hg (by simp; omega), h.e.kept hg (by simp; omega), h.below.grown hg h.below.size (fun j e => by cases e; exact h0)⟩
theorem Five.joinD {w0 W W' : World} {ba bb bc bd be : Nat} {A B C D E D' : Vw} (h : Five w0 W ba bb bc bd be A B C D E) (h0 : w0.heap.size ≤ bd) (had : ba < bd) (hbd : bb < bd) (hcd : bc < bd) (hde : bd < be) (hv : ViewAt W' bd D') (hg : W.grownBy W' (some bd)) : Five w0 W' ba bb bc bd be A B C D' E :=
  ⟨h.a.kept hg (by simp; omega), h.b.kept hg (by simp; omega), h.c.kept hg (by simp; omega), hv, h.e.kept hg (by simp; omega), h.below.grown hg h.below.size (fun j e => by cases e; exact h0)⟩

/-- What the law asks of them. -/
structure Asked (A B C' D' E : Vw) : Prop where
  ab : ∀ k, k < 8 → cmpC (A k).i (A k).h (B k).i (B k).h = 0
  ac : ∀ k, k < 8 → cmpC (A k).i (A k).h (C' k).i (C' k).h = 0
  ad : ∀ k, k < 8 → cmpC (A k).i (A k).h (D' k).i (D' k).h = 0
  ae : ∀ k, k < 8 → 0 ≤ cmpC (A k).i (A k).h (E k).i (E k).h
  cd : heardN C' (saidV D') = 0
  cc : heardN (hearAll C' (saidV D')) (saidV (hearAll C' (saidV D'))) = 0
theorem asked (l m : List Cl) (j : Nat) (hj : j ≤ l.length) (hs : l.length + m.length ≤ 80) :
    Asked (heardL (l ++ m)) (heardL (m ++ l.drop j ++ l ++ l.take j)) (hearAll (heardL l) (saidV (heardL m))) (hearAll (heardL m) (saidV (heardL l))) (heardL l) where
  ab k _ := same_of_lub fun y => (turned_lub l m j hj hs k y).symm
  ac k hk := same_of_lub fun y => (both_lub l m hs k y).trans (join_lub (good_heard l) (good_heard m) k hk y).symm
  ad k hk := same_of_lub fun y => (both_lub l m hs k y).trans (and_comm.trans (join_lub (good_heard m) (good_heard l) k hk y).symm)
  ae k _ := by
    have h := ((both_lub l m hs k _).1 (kle_refl _)).1
    unfold kle cmpK at h
    rw [cmpC_neg] at h
    omega
  cd := join_again (good_all (good_heard m) _) fun k hk =>
    (join_lub (good_heard m) (good_heard l) k hk _).2 (((join_lub (good_heard l) (good_heard m) k hk _).1 (kle_refl _)).symm)
  cc := join_again (good_all (good_all (good_heard l) _) _) fun k _ => kle_refl _

set_option maxHeartbeats 8000000 in
set_option maxRecDepth 100000 in
theorem joins_short (v1 v2 : Value) (l m : List Cl) (n : Int) (w : World) (hl : SrcAt w v1 l) (hm : SrcAt w v2 m) (hs : l.length + m.length ≤ 80) : Gives Try.prog 4 #[v1, v2, .int .i64 n] w (.bool true) := by
  unfold Gives
  have H8 := Lib.hid awake_any
  have HL := Lib.hid hl
  have HM := Lib.hid hm
  obtain ⟨_, p1, c1, rfl, hlc1, hp1⟩ := hl
  obtain ⟨_, p2, c2, rfl, hlc2, hp2⟩ := hm
  have hs' : (l.length : Int) + (m.length : Int) ≤ 80 := by omega
  obtain ⟨k, hk, hmod1, hmod2⟩ := mod_any n l.length (by omega)
  go_enter Try.func4, Try.ntmps4
  go_wp2_with (first | (at_builtin; refine wpList_append_list (xs := []) (l := l) rfl _ _ rfl rfl rfl (made_empty (Below.refl _ _)) (HL.out.below ((Below.refl _ _).alloc (Nat.le_refl _) _)) (by simp; omega) ?_; intro va wa hma) | (at_builtin; refine wpList_append_list (xs := l) (l := m) rfl _ _ rfl rfl rfl (by assumption) (HM.out.below (by first | assumption | exact hma.2)) (by omega) ?_; intro vb wb hmb))
  have HMB := Lib.hid hmb
  refine (heard_any _ (l ++ m) wb hmb.list (by simp; omega)).mono ?_
  rintro e w1 ⟨rfl, hv1, hB1⟩
  have hb1 : Below w.heap.size w w1 := HMB.out.2.trans (hB1.mono HMB.out.2.size)
  have hva : wb.heap.size < w1.heap.size := hv1.lt
  have HV1 := Lib.hid hv1
  have HB1 := Lib.hid hb1
  have HM1 := Lib.hid (HM.out.below hb1)
  have HL1 := Lib.hid (HL.out.below hb1)
  have HD1 := Lib.hid (srcAt_drop HL1.out hk)
  have HT1 := Lib.hid (srcAt_take HL1.out hk)
  have hwb : w.heap.size ≤ wb.heap.size := HMB.out.2.size
  clear hv1 hB1 hb1 hma hmb HMB
  go_wp2_with fail
  clear hmod1 hmod2
  have hk1 : (k : Int) ≤ (l.length : Int) := by omega
  have hk2 : (k : Int) ≤ (c1 : Int) := by omega
  have hlc1' : (l.length : Int) ≤ (c1 : Int) := by omega
  go_region_law (first | (refine step_append_list (xs := m ++ l.drop k ++ l) (l := l.take k) rfl _ _ rfl rfl rfl hmc2 (HT1.out.below hmc2.2) (by simp; omega) ?_; intro vd2 wd2 hmd2) | (refine step_append_list (xs := m ++ l.drop k) (l := l) rfl _ _ rfl rfl rfl hmb2 (HL1.out.below hmb2.2) (by simp; omega) ?_; intro vc2 wc2 hmc2) | (refine step_append_list (xs := m) (l := l.drop k) rfl _ _ rfl rfl rfl hma2 (HD1.out.below hma2.2) (by simp; omega) ?_; intro vb2 wb2 hmb2) | (refine step_append_list (xs := []) (l := m) rfl _ _ rfl rfl rfl (made_empty ((Below.refl _ _).drew)) (HM1.out.below (((Below.refl _ _).drew).alloc (Nat.le_refl _) _)) (by simp; omega) ?_; intro va2 wa2 hma2) | (refine step_call1 (v0 := vd2) (R := fun v w' => v = .pointer (some ⟨wd2.heap.size, 0, none⟩) ∧ Hid (ViewAt w' wd2.heap.size (heardL (m ++ l.drop k ++ l ++ l.take k)) ∧ Below w1.heap.size w1 w' ∧ w1.heap.size ≤ wd2.heap.size)) rfl 15 _ _ rfl (enters_of Try.func15 (by kernel_rfl) rfl) rfl ((heard_any vd2 (m ++ l.drop k ++ l ++ l.take k) wd2 hmd2.list (by simp; omega)).mono fun e w' h => ⟨_, h.1, rfl, Lib.hid ⟨h.2.1, hmd2.2.trans (h.2.2.mono hmd2.2.size), hmd2.2.size⟩⟩) ?_; rintro _ w2 ⟨rfl, H2⟩; clear hma2 hmb2 hmc2 hmd2))
  generalize (if c1 = k then p1 else Option.map (fun a => a.add (k * 3)) p1) = p9
  have hB2 : Below w.heap.size w w2 := HB1.out.trans (H2.out.2.1.mono HB1.out.size)
  have HB2 := Lib.hid hB2
  have hwd : w1.heap.size ≤ wd2.heap.size := H2.out.2.2
  have HV2 := Lib.hid H2.out.1
  have HA2 := Lib.hid (HV1.out.later H2.out.2.1)
  have hvb : wd2.heap.size < w2.heap.size := H2.out.1.lt
  have HL2 := Lib.hid (HL.out.1.below hB2)
  have HM2 := Lib.hid (HM.out.1.below hB2)
  clear hB2 H2 HD1 HT1 HL1 HM1 HL HM HV1 HB1
  go_wp2_with fail
  refine (heard_any _ l w2 HL2.out (by omega)).mono ?_
  rintro e w3 ⟨rfl, hv3, hB3⟩
  have HV3 := Lib.hid hv3
  have HB3 := Lib.hid hB3
  have hvc : w2.heap.size < w3.heap.size := hv3.lt
  clear hv3 hB3
  go_wp2_with fail
  refine (heard_any _ m w3 (HM2.out.below HB3.out) (by omega)).mono ?_
  rintro e w4 ⟨rfl, hv4, hB4⟩
  have hvd : w3.heap.size < w4.heap.size := hv4.lt
  have HV4 := Lib.hid hv4
  have HB4 := Lib.hid hB4
  clear hv4 hB4
  go_wp2_with fail
  refine (copy_any w2.heap.size (heardL l) w4 (HV3.out.later HB4.out)).mono ?_
  rintro e w5 ⟨rfl, hv5, hB5, hs5⟩
  have HV5 := Lib.hid hv5
  have HB5 := Lib.hid hB5
  clear hv5 hB5
  have hbb : wb.heap.size < wd2.heap.size := by omega
  have HF : Hid (Five w w5 wb.heap.size wd2.heap.size w2.heap.size w3.heap.size w4.heap.size (heardL (l ++ m)) (heardL (m ++ l.drop k ++ l ++ l.take k)) (heardL l) (heardL m) (heardL l)) :=
    Lib.hid ⟨((HA2.out.later HB3.out).later HB4.out).later HB5.out, ((HV2.out.later HB3.out).later HB4.out).later HB5.out, (HV3.out.later HB4.out).later HB5.out, HV4.out.later HB5.out, HV5.out, ((HB2.out.trans (HB3.out.mono HB2.out.size)).trans (HB4.out.mono (Nat.le_trans HB2.out.size HB3.out.size))).trans (HB5.out.mono (Nat.le_trans HB2.out.size (Nat.le_trans HB3.out.size HB4.out.size)))⟩
  have HQ := Lib.hid (asked l m k hk hs)
  have hup : heardN (heardL l) (saidV (heardL m)) ≤ (saidV (hearAll (heardL m) (saidV (heardL l)))).length :=
    Nat.le_trans (heardN_le _ _) (said_grows (good_heard m) (good_all (good_heard m) _) fun j hj => ((join_lub (good_heard m) (good_heard l) j hj _).1 (kle_refl _)).1)
  have hdown : heardN (heardL m) (saidV (heardL l)) ≤ (saidV (heardL l)).length := heardN_le _ _
  have h80 : heardN (heardL m) (saidV (heardL l)) ≤ 8 ∧ heardN (heardL l) (saidV (heardL m)) ≤ 8 := ⟨Nat.le_trans (heardN_le _ _) (saidUp_len _ 8), Nat.le_trans (heardN_le _ _) (saidUp_len _ 8)⟩
  have h81 : (saidV (hearAll (heardL m) (saidV (heardL l)))).length ≤ 8 ∧ (saidV (heardL l)).length ≤ 8 := ⟨saidUp_len _ 8, saidUp_len _ 8⟩
  obtain ⟨ba, hba⟩ : ∃ b, wb.heap.size = b := ⟨_, rfl⟩
  obtain ⟨bb, hbbe⟩ : ∃ b, wd2.heap.size = b := ⟨_, rfl⟩
  obtain ⟨bc, hbc⟩ : ∃ b, w2.heap.size = b := ⟨_, rfl⟩
  obtain ⟨bd, hbd⟩ : ∃ b, w3.heap.size = b := ⟨_, rfl⟩
  obtain ⟨be, hbe⟩ : ∃ b, w4.heap.size = b := ⟨_, rfl⟩
  obtain ⟨A, hA⟩ : ∃ V, heardL (l ++ m) = V := ⟨_, rfl⟩
  obtain ⟨B, hB⟩ : ∃ V, heardL (m ++ l.drop k ++ l ++ l.take k) = V := ⟨_, rfl⟩
  obtain ⟨C', hC'⟩ : ∃ V, hearAll (heardL l) (saidV (heardL m)) = V := ⟨_, rfl⟩
  obtain ⟨D', hD'⟩ : ∃ V, hearAll (heardL m) (saidV (heardL l)) = V := ⟨_, rfl⟩
  have HJ1 := Lib.hid (join_any w2.heap.size w3.heap.size (heardL l) (heardL m) w5 HF.out.c HF.out.d)
  have HJ2 := Lib.hid (fun W (h : Five w W ba bb bc bd be A B C' (heardL m) (heardL l)) => join_any bd be (heardL m) (heardL l) W h.d h.e)
  have HAL1 := Lib.hid (fun W (h : Five w W ba bb bc bd be A B C' D' (heardL l)) => all_len bd D' W h.d)
  have HAL2 := Lib.hid (fun W (h : Five w W ba bb bc bd be A B C' D' (heardL l)) => all_len be (heardL l) W h.e)
  rw [hba] at hwb
  rw [hba, hbbe] at hbb
  rw [hbbe, hbc] at hvb
  rw [hbc, hbd] at hvc
  rw [hbd, hbe] at hvd
  rw [hD'] at hup HJ2 h81 HQ
  rw [hC'] at HJ1 HQ
  rw [hA, hB] at HQ
  rw [hba, hbbe, hbc, hbd, hbe, hA, hB] at HF
  rw [hbc, hbd] at HJ1
  rw [hba, hbbe, hbc, hbd, hbe]
  obtain ⟨q1, hq1⟩ : ∃ q, heardN (heardL l) (saidV (heardL m)) = q := ⟨_, rfl⟩
  obtain ⟨q2, hq2⟩ : ∃ q, heardN (heardL m) (saidV (heardL l)) = q := ⟨_, rfl⟩
  obtain ⟨q3, hq3⟩ : ∃ q, (saidV D').length = q := ⟨_, rfl⟩
  obtain ⟨q4, hq4⟩ : ∃ q, (saidV (heardL l)).length = q := ⟨_, rfl⟩
  rw [hq1] at hup h80 HJ1
  rw [hq2] at hdown h80 HJ2
  rw [hq3] at hup h81 HAL1
  rw [hq4] at hdown h81 HAL2
  obtain ⟨C, hC⟩ : ∃ V, heardL l = V := ⟨_, rfl⟩
  obtain ⟨D, hD⟩ : ∃ V, heardL m = V := ⟨_, rfl⟩
  rw [hC] at HF HQ HJ2 HAL1 HAL2
  rw [hD] at HF HJ2
  clear hq1 hq2 hq3 hq4 hC hD hA hB hC' hD' HA2 HV2 HV3 HV4 HV5 HB2 HB3 HB4 HB5 HL2 HM2 hwd hva hs5 hba hbbe hbc hbd hbe
  have hdc1 : decide (q3 < q1) = false := by simp; omega
  have hdc2 : decide (q4 < q2) = false := by simp; omega
  obtain ⟨h82, h83⟩ := h80
  obtain ⟨h84, h85⟩ := h81
  go_wp2_with fail
  refine HJ1.out.mono ?_
  rintro e w6 ⟨rfl, hj1, hj2⟩
  have HF6 := Lib.hid (HF.out.joinC (by omega) (by omega) hvb hvc (by omega) hj1 hj2)
  clear hj1 hj2
  go_wp2_with fail
  refine (HJ2.out _ HF6.out).mono ?_
  rintro e w7 ⟨rfl, hj1, hj2⟩
  have HF7 := Lib.hid (HF6.out.joinD (by omega) (by omega) (by omega) hvc hvd hj1 hj2)
  clear hj1 hj2
  go_wp2_with fail
  refine (HAL1.out _ HF7.out).mono ?_
  rintro e _ ⟨p8, c8, rfl, x8, rfl⟩
  go_wp2_with fail
  refine any_on (HAL2.out _ (HF7.out.later x8.below)) ?_
  intro p9 c9 x9
  have HF9 := Lib.hid (HF7.out.later x9.below)
  obtain ⟨w9, hw9⟩ : ∃ W, x9.w = W := ⟨_, rfl⟩
  rw [hw9] at HF9 ⊢
  clear hw9 HF7 HF6 HF HJ1 HJ2 HAL1 HAL2
  go_wp2_with fail
  go_loopw [76] (fun i wr => ∃ k : Nat, k ≤ 8 ∧ i = .int .i64 k ∧ ∃ x : Later w9, wr = x.w) (fun i _ => 8 - (intOf i).toNat)
  case atStart => exact ⟨0, by omega, rfl, ⟨w9, Below.refl _ _⟩, rfl⟩
  case round =>
    obtain ⟨j, hj, rfl, x, rfl⟩ := hrel
    by_cases hj8 : j < 8
    · skip
      have HA : Hid (∀ W, Below w9.heap.size w9 W → Gives Try.prog 9 #[.pointer (some ⟨ba, 0, none⟩), .int .i64 j] W (.agg #[.int .i64 j, .int .i64 (A j).i, .int .i64 (A j).h])) := Lib.hid (fun W hb => (of_any _ _ j _ (HF9.out.a.later hb)).cast (by rw [ofV_in _ j hj8]; rfl))
      have HB : Hid (∀ W, Below w9.heap.size w9 W → Gives Try.prog 9 #[.pointer (some ⟨bb, 0, none⟩), .int .i64 j] W (.agg #[.int .i64 j, .int .i64 (B j).i, .int .i64 (B j).h])) := Lib.hid (fun W hb => (of_any _ _ j _ (HF9.out.b.later hb)).cast (by rw [ofV_in _ j hj8]; rfl))
      have HC : Hid (∀ W, Below w9.heap.size w9 W → Gives Try.prog 9 #[.pointer (some ⟨bc, 0, none⟩), .int .i64 j] W (.agg #[.int .i64 j, .int .i64 (C' j).i, .int .i64 (C' j).h])) := Lib.hid (fun W hb => (of_any _ _ j _ (HF9.out.c.later hb)).cast (by rw [ofV_in _ j hj8]; rfl))
      have HD : Hid (∀ W, Below w9.heap.size w9 W → Gives Try.prog 9 #[.pointer (some ⟨bd, 0, none⟩), .int .i64 j] W (.agg #[.int .i64 j, .int .i64 (D' j).i, .int .i64 (D' j).h])) := Lib.hid (fun W hb => (of_any _ _ j _ (HF9.out.d.later hb)).cast (by rw [ofV_in _ j hj8]; rfl))
      have HE : Hid (∀ W, Below w9.heap.size w9 W → Gives Try.prog 9 #[.pointer (some ⟨be, 0, none⟩), .int .i64 j] W (.agg #[.int .i64 j, .int .i64 (C j).i, .int .i64 (C j).h])) := Lib.hid (fun W hb => (of_any _ _ j _ (HF9.out.e.later hb)).cast (by rw [ofV_in _ j hj8]; rfl))
      have hq4 := HQ.out.ae j hj8
      have X1 : Hid (∀ W, Gives Try.prog 16 #[.agg #[.int .i64 j, .int .i64 (A j).i, .int .i64 (A j).h], .agg #[.int .i64 j, .int .i64 (B j).i, .int .i64 (B j).h]] W (.int .i64 0)) := Lib.hid (fun W => (compare_any _ _ _ _ _ _ W).cast (by rw [HQ.out.ab j hj8]))
      have X2 : Hid (∀ W, Gives Try.prog 16 #[.agg #[.int .i64 j, .int .i64 (A j).i, .int .i64 (A j).h], .agg #[.int .i64 j, .int .i64 (C' j).i, .int .i64 (C' j).h]] W (.int .i64 0)) := Lib.hid (fun W => (compare_any _ _ _ _ _ _ W).cast (by rw [HQ.out.ac j hj8]))
      have X3 : Hid (∀ W, Gives Try.prog 16 #[.agg #[.int .i64 j, .int .i64 (A j).i, .int .i64 (A j).h], .agg #[.int .i64 j, .int .i64 (D' j).i, .int .i64 (D' j).h]] W (.int .i64 0)) := Lib.hid (fun W => (compare_any _ _ _ _ _ _ W).cast (by rw [HQ.out.ad j hj8]))
      have X4 := Lib.hid (compare_any j (A j).i (A j).h j (C j).i (C j).h)
      obtain ⟨q, hq⟩ : ∃ a, cmpC (A j).i (A j).h (C j).i (C j).h = a := ⟨_, rfl⟩
      rw [hq] at X4 hq4
      obtain ⟨a1, ha1⟩ : ∃ a, (A j).i = a := ⟨_, rfl⟩
      obtain ⟨a2, ha2⟩ : ∃ a, (A j).h = a := ⟨_, rfl⟩
      obtain ⟨b1, hb1⟩ : ∃ a, (B j).i = a := ⟨_, rfl⟩
      obtain ⟨b2, hb2⟩ : ∃ a, (B j).h = a := ⟨_, rfl⟩
      obtain ⟨d1, hd1⟩ : ∃ a, (C' j).i = a := ⟨_, rfl⟩
      obtain ⟨d2, hd2⟩ : ∃ a, (C' j).h = a := ⟨_, rfl⟩
      obtain ⟨e1, he1⟩ : ∃ a, (D' j).i = a := ⟨_, rfl⟩
      obtain ⟨e2, he2⟩ : ∃ a, (D' j).h = a := ⟨_, rfl⟩
      obtain ⟨f1, hf1⟩ : ∃ a, (C j).i = a := ⟨_, rfl⟩
      obtain ⟨f2, hf2⟩ : ∃ a, (C j).h = a := ⟨_, rfl⟩
      rw [ha1, ha2] at HA X1 X2 X3 X4
      rw [hb1, hb2] at HB X1
      rw [hd1, hd2] at HC X2
      rw [he1, he2] at HD X3
      rw [hf1, hf2] at HE X4
      clear hq ha1 ha2 hb1 hb2 hd1 hd2 he1 he2 hf1 hf2
      go_wp2_with fail
      refine Gives.on (HA.out _ x.below) ?_
      intro x1
      go_wp2_with fail
      refine wp_region_later (by kernel_rfl) (by kernel_rfl) ?_
      repeat (go_big_quiet_step (first | (go_at_call 9; first | (with_reducible exact later_of (HB.out _ (by repeat (first | exact ext_refl _ | refine ext_alloc ?_ _ | refine ext_later ?_ _ | refine ext_drew ?_ | refine ext_drewN ?_ _)))) | (with_reducible exact later_of (HC.out _ (by repeat (first | exact ext_refl _ | refine ext_alloc ?_ _ | refine ext_later ?_ _ | refine ext_drew ?_ | refine ext_drewN ?_ _)))) | (with_reducible exact later_of (HD.out _ (by repeat (first | exact ext_refl _ | refine ext_alloc ?_ _ | refine ext_later ?_ _ | refine ext_drew ?_ | refine ext_drewN ?_ _)))) | (with_reducible exact later_of (HE.out _ (by repeat (first | exact ext_refl _ | refine ext_alloc ?_ _ | refine ext_later ?_ _ | refine ext_drew ?_ | refine ext_drewN ?_ _))))) | (go_at_call 16; first | (with_reducible exact later_of (X1.out _)) | (with_reducible exact later_of (X2.out _)) | (with_reducible exact later_of (X3.out _)) | (with_reducible exact later_of (X4.out _)))))
      refine wpQuiet_nil ?_
      rintro _ ⟨x2, rfl⟩
      go_wp2_with fail
      go_roundw
      case rel => exact ⟨j + 1, by omega, by go_num, ⟨x2.w, (by repeat (first | exact ext_refl _ | refine ext_alloc ?_ _ | refine ext_later ?_ _ | refine ext_drew ?_ | refine ext_drewN ?_ _))⟩, rfl⟩
      case measure => simp [intOf]; omega
    · obtain rfl : j = 8 := by omega
      have HF10 := Lib.hid (HF9.out.later x.below)
      obtain ⟨w10, hw10⟩ : ∃ W, x.w = W := ⟨_, rfl⟩
      rw [hw10] at HF10 ⊢
      clear hw10
      have HK1 := Lib.hid (join_any bc bd C' D' w10 HF10.out.c HF10.out.d)
      rw [HQ.out.cd] at HK1
      go_wp2_with fail
      refine HK1.out.mono ?_
      rintro e w11 ⟨rfl, hj1, hj2⟩
      have HF11 := Lib.hid (HF10.out.joinC (by omega) (by omega) hvb hvc (by omega) hj1 hj2)
      have HK2 := Lib.hid (join_any bc bc _ _ w11 HF11.out.c HF11.out.c)
      rw [HQ.out.cc] at HK2
      clear hj1 hj2
      go_wp2_with fail
      refine HK2.out.mono ?_
      rintro e w12 ⟨rfl, hj1, hj2⟩
      have HF12 := Lib.hid (HF11.out.joinC (by omega) (by omega) hvb hvc (by omega) hj1 hj2)
      clear hj1 hj2
      go_wp2_with fail
      refine Gives.mono' (H8.out _) ?_
      intro x13
      go_wp2_with fail
      go_ret
      exact ⟨rfl, Later.ex (by repeat (first | exact HF12.out.below | refine ext_later ?_ _ | refine ext_alloc ?_ _ | refine ext_drew ?_ | refine ext_drewN ?_ _))⟩

theorem joins_any (v1 : Value) (l : List Cl) (v2 : Value) (m : List Cl) (n : Int) (w : World) (hl : SrcAt w v1 l) (h1 : l.length * 24 ≤ 140737488351232) (hm : SrcAt w v2 m) (h2 : m.length * 24 ≤ 140737488351232) (_ : (Lit.int .i64 n).wf = true) : Gives Try.prog 4 #[v1, v2, .int .i64 n] w (.bool true) := by
  by_cases h : 80 < l.length + m.length
  · exact joins_long v1 v2 l m n w hl.1 hm.1 h1 h2 h
  · exact joins_short v1 v2 l m n w hl hm (by omega)
end Go.Proofs.Ytbddjhkoikcgjaa
