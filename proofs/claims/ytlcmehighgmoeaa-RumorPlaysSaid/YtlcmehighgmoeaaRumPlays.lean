/- RumorPlays' walk. -/
import Derived.Test.YtlcmehighgmoeaaRumPlaysMath
import Derived.Test.YtlcmehighgmoeaaOpenCalls
namespace Go.Proofs.Ytlcmehighgmoeaa
open Go Go.RowKit

theorem min_max_one (x : Int) : ∃ k : Nat, min (max x 1) 20 = (k : Int) ∧ max 1 (min x 20) = (k : Int) ∧ 1 ≤ k ∧ k ≤ 20 := ⟨(min (max x 1) 20).toNat, by omega, by omega, by omega, by omega⟩
theorem CallsAt.form {W : World} {v : Value} {l : List Call5} (h : CallsAt W v l) : ∃ p cap, v = .slice p l.length cap ∧ (l = [] ∨ ∃ b o, p = some ⟨b, o, none⟩ ∧ b < W.heap.size ∧ ∀ k x, l[k]? = some x → W.cell? ⟨b, o + k * 5, none⟩ = some (.int .i64 x.d) ∧ W.cell? ⟨b, o + k * 5 + 1, none⟩ = some (.int .i64 x.n) ∧ W.cell? ⟨b, o + k * 5 + 2, none⟩ = some (.int .i64 x.c.n) ∧ W.cell? ⟨b, o + k * 5 + 3, none⟩ = some (.int .i64 x.c.i) ∧ W.cell? ⟨b, o + k * 5 + 4, none⟩ = some (.int .i64 x.c.h)) := by
  rcases h with ⟨rfl, p, cap, rfl⟩ | ⟨b, o, cap, rfl, hlt, hc⟩
  · exact ⟨_, _, rfl, .inl rfl⟩
  · exact ⟨_, _, rfl, .inr ⟨b, o, rfl, hlt, hc⟩⟩

set_option maxHeartbeats 4000000 in
set_option maxRecDepth 100000 in
theorem playsLaw_any (often : Int) (v : Value) (l : List Call5) (w : World) (_ : (Lit.int .i64 often).wf = true) (hl : CallsAt w v l) (hm : l.length * 40 ≤ 140737488351232) : Gives Try.prog 3 #[.int .i64 often, v] w (.bool true) := by
  unfold Gives
  obtain ⟨p, cap, rfl, hcell⟩ := hl.form
  have HL := Lib.hid hcell
  clear hcell hl
  have HA := Lib.hid awakeR_any
  obtain ⟨OF, ho1, ho2, ho3, ho4⟩ := min_max_one often
  have HN := Lib.hid (newR_any often w OF ho1)
  have HN2 := Lib.hid (fun W => newQ_any often W OF ho2)
  clear ho1 ho2
  go_enter Try.func3, Try.ntmps3
  go_wp2_with fail
  refine HN.out.mono ?_
  rintro e w1 ⟨rfl, hq1, hb1⟩
  have HQ1 := Lib.hid hq1
  have HB1 := Lib.hid hb1
  clear hq1 hb1
  go_wp2_with fail
  refine (HN2.out _).mono ?_
  rintro e w2 ⟨rfl, hm1, hb2⟩
  have HP1 : Hid (PS w [] w.heap.size w1.heap.size OF [] [] w2) := Lib.hid ⟨_, _, (rumQ_owns _ _ _).kept w1 w2 _ HQ1.out hb2.size (fun k hk => hb2.block k ((rumQ_owns _ _ _).lt w1 _ HQ1.out k hk)), hm1, fun k hk hk' => by
    have := (rumQ_owns _ _ _).lt w1 _ HQ1.out k hk
    omega, HB1.out.trans (hb2.mono HB1.out.size), fun k hk => ⟨by omega, by simp⟩, fun k hk => ⟨by have := HB1.out.size; omega, by simp⟩, fun k hk => by simp at hk, List.Perm.refl _, fun k hk hkn => by simp at hkn, Fine.nil ho3 ho4⟩
  clear hm1 hb2 HQ1 HB1 HN HN2
  obtain ⟨m, hmq⟩ : ∃ m, w1.heap.size = m := ⟨_, rfl⟩
  rw [hmq] at HP1 ⊢
  clear hmq
  obtain ⟨w3, hw3⟩ : ∃ W, W = w2 := ⟨_, rfl⟩
  subst hw3
  go_wp2_with fail
  go_loopw [22] (fun v22 wr => ∃ (k : Nat) (R L : List Td), v22 = .int .i64 k ∧ k ≤ l.length ∧ PS w [] w.heap.size m OF R L wr) (fun v22 _ => l.length - (intOf v22).toNat)
  case atStart => exact ⟨0, [], [], rfl, by omega, HP1.out⟩
  case round =>
    clear HP1
    obtain ⟨k, R, L, rfl, hk, hs⟩ := hrel
    have HS := Lib.hid hs
    clear hs
    by_cases hkl : k < l.length
    · obtain ⟨⟨d, n, ⟨cn, ci, ch⟩⟩, hkc⟩ : ∃ c, l[k]? = some c := ⟨_, List.getElem?_eq_getElem hkl⟩
      rcases HL.out with h0 | ⟨b, o, rfl, hlt, hc⟩
      · rw [h0] at hkl; simp at hkl
      obtain ⟨h0, h1, h2, h3, h4⟩ := hc k _ hkc
      have hB := HS.out.below
      have hc0 : wr.cell? ⟨b, o + k * 5, none⟩ = some (.int .i64 d) := (hB.cell (p := ⟨b, _, none⟩) hlt).trans h0
      have hc1 : wr.cell? ⟨b, o + k * 5 + 1, none⟩ = some (.int .i64 n) := (hB.cell (p := ⟨b, _, none⟩) hlt).trans h1
      have hc2 : wr.cell? ⟨b, o + k * 5 + 2, none⟩ = some (.int .i64 cn) := (hB.cell (p := ⟨b, _, none⟩) hlt).trans h2
      have hc3 : wr.cell? ⟨b, o + k * 5 + 3, none⟩ = some (.int .i64 ci) := (hB.cell (p := ⟨b, _, none⟩) hlt).trans h3
      have hc4 : wr.cell? ⟨b, o + k * 5 + 4, none⟩ = some (.int .i64 ch) := (hB.cell (p := ⟨b, _, none⟩) hlt).trans h4
      have hkd : decide ((k : Int) < (l.length : Int)) = true := by simp; omega
      clear h0 h1 h2 h3 h4 hc hkc hB
      by_cases h100 : 100 ≤ k
      · have g100 : decide ((100 : Int) ≤ (k : Int)) = true := by simp; omega
        go_wp2_with fail
        refine Gives.mono' (HA.out _) ?_
        intro x3
        go_wp2_with fail
        go_ret
        have hX := HS.out.later ⟨wr.alloc (.cells #[.int .i64 d, .int .i64 n, .int .i64 cn, .int .i64 ci, .int .i64 ch] 30), ext_alloc (ext_refl _) _⟩
        exact ⟨rfl, Later.ex (below_later hX.below hX.below.size x3)⟩
      · have g100 : decide ((100 : Int) ≤ (k : Int)) = false := by simp; omega
        have HW := Lib.hid (HS.out.wider (ext_alloc (ext_refl wr) (.cells #[.int .i64 d, .int .i64 n, .int .i64 cn, .int .i64 ci, .int .i64 ch] 30)) (Nat.le_refl _) (by simp))
        have hbox := heap_alloc_new wr (.cells #[.int .i64 d, .int .i64 n, .int .i64 cn, .int .i64 ci, .int .i64 ch] 30)
        have HBox := Lib.hid hbox
        clear hbox
        -- behind the call: the rest of the round, from a state of both queues
        go_upto_region 8 with fail
        obtain ⟨W1, hW1⟩ : ∃ W, wr.alloc (.cells #[.int .i64 d, .int .i64 n, .int .i64 cn, .int .i64 ci, .int .i64 ch] 30) = W := ⟨_, rfl⟩
        rw [hW1] at HW HBox ⊢
        obtain ⟨cb, hcb⟩ : ∃ cb, wr.heap.size = cb := ⟨_, rfl⟩
        rw [hcb] at HW HBox ⊢
        clear hW1 hcb hc0 hc1 hc2 hc3 hc4 HS
        have e0 : W1.cell? ⟨cb, 0, none⟩ = some (.int .i64 d) := by simp [World.cell?, HBox.out]
        have e1 : W1.cell? ⟨cb, 1, none⟩ = some (.int .i64 n) := by simp [World.cell?, HBox.out]
        have e2 : W1.cell? ⟨cb, 2, none⟩ = some (.int .i64 cn) := by simp [World.cell?, HBox.out]
        have e3 : W1.cell? ⟨cb, 3, none⟩ = some (.int .i64 ci) := by simp [World.cell?, HBox.out]
        have e4 : W1.cell? ⟨cb, 4, none⟩ = some (.int .i64 ch) := by simp [World.cell?, HBox.out]
        by_cases hd : d = 0
        · have gd : ((d : Int) == 0) = true := by simpa using hd
          go_wp2_with fail
          have HT1 := Lib.hid (ps_take1 (HW.out.later ⟨W1.drew, ext_drew (ext_refl W1)⟩) n)
          dsimp only at HT1
          clear HBox
          go_region_law (first | (refine stp_call2 (R := fun v w' => v = .bool true ∧ ∃ x : Later w5, w' = x.w) (v0 := u2) (v1 := v2) rfl 11 _ _ _ rfl Try.call11 (by rfl) (by rfl) (by obtain ⟨⟨l, h1, h2, h3⟩, _, _⟩ := HEnd.out; exact (same_any _ _ l w5 h2 h3 h1).mono fun e w' ⟨he, hx⟩ => ⟨_, he, rfl, hx⟩) ?_; rintro _ _ ⟨rfl, x6, rfl⟩) | (refine stp_call2 (R := fun v w' => (∃ l : List Cl, l.length ≤ 1000 ∧ ListAt w' u2 l ∧ ListAt w' v l) ∧ (∃ R' L', PS w [cb] w.heap.size m OF R' L' w') ∧ Keeps [cb] w4 w') (v0 := .pointer (some ⟨m, 0, none⟩)) (v1 := .int .i64 n) rfl 13 _ _ _ rfl Try.call13 (by rfl) (by rfl) (ps_take2 HMid.out) ?_; intro v2 w5 hend; have HEnd := Lib.hid hend; clear hend) | (refine stp_call2 (R := fun u W' => TakeMid w [cb] w.heap.size m OF R L n u W' ∧ Keeps [cb] W1.drew W') (v0 := .pointer (some ⟨w.heap.size, 0, none⟩)) (v1 := .int .i64 n) rfl 12 _ _ _ rfl Try.call12 (by rfl) (by rfl) HT1.out ?_; intro u2 w4 hmid; have HMid := Lib.hid hmid.1; have f1 : w4.cell? ⟨cb, 1, none⟩ = some (.int .i64 n) := (hmid.2.cell (by simp) 1).trans e1; clear hmid))
          all_goals
            obtain ⟨_, ⟨R2, L2, hps⟩, _⟩ := HEnd.out
            have HS9 := Lib.hid (hps.narrower.later x6)
            clear hps HEnd HMid HT1 e0 e1 e2 e3 e4 f1 HW
            go_wp2_with fail
            obtain ⟨W9, hW9⟩ : ∃ W, x6.w = W := ⟨_, rfl⟩
            rw [hW9] at HS9 ⊢
            clear hW9
            have HLen : Hid (∀ x : Later W9, Gives Try.prog 16 #[.pointer (some ⟨w.heap.size, 0, none⟩)] x.w (.int .i64 L2.length)) := Lib.hid fun x => ps_len (HS9.out.later x)
            obtain ⟨pm, cm, hcells⟩ := ps_cells HS9.out
            have c1 := hcells.h1
            have c2 := hcells.lt
            clear hcells
            go_region_law (refine stp_call1 (R := fun v w' => v = .int .i64 L2.length ∧ ∃ x : Later W9, w' = x.w) (v0 := .pointer (some ⟨w.heap.size, 0, none⟩)) rfl 16 _ _ rfl Try.call16 (by rfl) ((HLen.out ⟨W9.drew, ext_drew (ext_refl W9)⟩).mono fun e w' ⟨he, x, hx⟩ => ⟨_, he, rfl, Later.ex (by rw [hx]; exact ext_later (ext_drew (ext_refl W9)) x)⟩) ?_; rintro _ _ ⟨rfl, x9, rfl⟩)
            all_goals
              have HSA := Lib.hid (HS9.out.later x9)
              go_upto_region 15 with fail
              clear c1 c2 HLen
              obtain ⟨WA, hWA⟩ : ∃ W, x9.w = W := ⟨_, rfl⟩
              rw [hWA] at HSA ⊢
              clear hWA HS9
              obtain ⟨WB, hWB⟩ : ∃ W, W = WA := ⟨_, rfl⟩
              subst hWB
              have HCells := Lib.hid (ps_cells HSA.out)
              have HL8 : Hid (L2.length ≤ 8) := Lib.hid (by have h1 := HSA.out.perm.length_eq; have h2 := HSA.out.fine.len; omega)
              go_wp2_with fail
              go_loopw [9] (fun v9 wz => ∃ N : Int, v9 = .int .i64 N ∧ -1 ≤ N ∧ N ≤ 9 ∧ ∃ x : Later WB, wz = x.w) (fun v9 _ => (9 - intOf v9).toNat)
              case atStart => exact ⟨-1, rfl, by omega, by omega, ⟨WB, Below.refl _ _⟩, rfl⟩
              case round =>
                obtain ⟨N, rfl, hN1, hN2, x, rfl⟩ := hrel
                by_cases hN : N ≤ 8
                · have gN : decide (N ≤ 8) = true := by simpa using hN
                  have HAt : Hid (∀ y : Later WB, Gives Try.prog 18 #[.pointer (some ⟨m, 0, none⟩), .int .i64 N] y.w (.int .i64 (atIx L2 N))) := Lib.hid fun y => ps_at (HSA.out.later y) N
                  rcases find_ix L2 N with ⟨hn, ha⟩ | ⟨kk, ⟨⟨tn, ti, th⟩, tk⟩, hn, hkk, ha, htn⟩
                  · have HH := Lib.hid ((ps_has (HSA.out.later x) N).cast (by rw [hn]; rfl : hasV (hasOf L2 N) = .tuple #[.agg #[.int .i64 0, .int .i64 0, .int .i64 0], .int .i64 0, .bool false]))
                    rw [ha] at HAt
                    clear hn ha
                    go_wp2_with fail
                    refine Gives.on HH.out ?_
                    intro x1
                    go_upto_region 19 with fail
                    have HAt1 := Lib.hid (HAt.out ⟨x1.w.alloc (.cells #[.int .i64 0, .int .i64 0, .int .i64 0] 28), ext_alloc x1.below _⟩)
                    have HBx := Lib.hid (ext_alloc x1.below (.cells #[.int .i64 0, .int .i64 0, .int .i64 0] 28))
                    have hbox := heap_alloc_new x1.w (.cells #[.int .i64 0, .int .i64 0, .int .i64 0] 28)
                    dsimp only at HAt1
                    obtain ⟨WC, hWC⟩ : ∃ W, x1.w.alloc (.cells #[.int .i64 0, .int .i64 0, .int .i64 0] 28) = W := ⟨_, rfl⟩
                    rw [hWC] at HAt1 HBx hbox ⊢
                    obtain ⟨b10, hb10⟩ : ∃ b, x1.w.heap.size = b := ⟨_, rfl⟩
                    rw [hb10] at hbox ⊢
                    clear hWC hb10 HH
                    have k0 : WC.cell? ⟨b10, 0, none⟩ = some (.int .i64 0) := by simp [World.cell?, hbox]
                    have k1 : WC.cell? ⟨b10, 1, none⟩ = some (.int .i64 0) := by simp [World.cell?, hbox]
                    have k2 : WC.cell? ⟨b10, 2, none⟩ = some (.int .i64 0) := by simp [World.cell?, hbox]
                    have k3 : b10 < WC.heap.size := (Array.getElem?_eq_some_iff.1 hbox).1
                    clear hbox
                    go_wp2_with fail
                    refine Gives.mono' HAt1.out ?_
                    intro x2
                    go_upto_region 20 with fail
                    go_quiet (fail)
                    go_wp2_with fail
                    go_roundw
                    case rel => exact ⟨N + 1, by go_num, by omega, by omega, Later.ex (by repeat (first | exact HBx.out | refine ext_later ?_ _ | refine ext_alloc ?_ _ | refine ext_drew ?_ | refine ext_drewN ?_ _))⟩
                    case measure => simp [intOf]; omega
                  · obtain ⟨pq, cq, hcl⟩ := HCells.out
                    have hkl := (List.getElem?_eq_some_iff.1 hkk).1
                    have hL8 := HL8.out
                    obtain ⟨T, hT⟩ : ∃ T : Int, (tk : Int) = T := ⟨_, rfl⟩
                    have HH := Lib.hid ((ps_has (HSA.out.later x) N).cast (by rw [hn, ← hT]; rfl : hasV (hasOf L2 N) = .tuple #[.agg #[.int .i64 tn, .int .i64 ti, .int .i64 th], .int .i64 T, .bool true]))
                    rw [ha] at HAt
                    obtain ⟨K, hK⟩ : ∃ K : Nat, L2.length = K := ⟨_, rfl⟩
                    have hc1 := hcl.h1
                    have hc2 := hcl.lt
                    rcases hcl.row with h0 | ⟨g, rfl, hg, hgq, _, hrow⟩
                    · rw [h0] at hkl; simp at hkl
                    obtain ⟨a0, a1, a2, a3⟩ := hrow kk _ hkk
                    dsimp only at a0 a1 a2 a3
                    rw [hT] at a3
                    rw [hK] at hc1 hkl hL8
                    clear hn ha htn hT hkk hrow hcl hK
                    go_wp2_with fail
                    refine Gives.on HH.out ?_
                    intro x1
                    go_upto_region 19 with fail
                    have HAt1 := Lib.hid (HAt.out ⟨x1.w.alloc (.cells #[.int .i64 tn, .int .i64 ti, .int .i64 th] 28), ext_alloc x1.below _⟩)
                    have hbx := ext_alloc x1.below (.cells #[.int .i64 tn, .int .i64 ti, .int .i64 th] 28)
                    have hbox := heap_alloc_new x1.w (.cells #[.int .i64 tn, .int .i64 ti, .int .i64 th] 28)
                    dsimp only at HAt1
                    obtain ⟨WC, hWC⟩ : ∃ W, x1.w.alloc (.cells #[.int .i64 tn, .int .i64 ti, .int .i64 th] 28) = W := ⟨_, rfl⟩
                    rw [hWC] at HAt1 hbx hbox ⊢
                    obtain ⟨b10, hb10⟩ : ∃ b, x1.w.heap.size = b := ⟨_, rfl⟩
                    rw [hb10] at hbox ⊢
                    clear hWC hb10 HH
                    have k0 : WC.cell? ⟨b10, 0, none⟩ = some (.int .i64 tn) := by simp [World.cell?, hbox]
                    have k1 : WC.cell? ⟨b10, 1, none⟩ = some (.int .i64 ti) := by simp [World.cell?, hbox]
                    have k2 : WC.cell? ⟨b10, 2, none⟩ = some (.int .i64 th) := by simp [World.cell?, hbox]
                    have k3 : b10 < WC.heap.size := (Array.getElem?_eq_some_iff.1 hbox).1
                    have d1 : WC.cell? ⟨m, 1, none⟩ = some (.slice (some ⟨g, 0, none⟩) K cq) := (hbx.cell (p := ⟨m, _, none⟩) hc2).trans hc1
                    have d2 : m < WC.heap.size := Nat.lt_of_lt_of_le hc2 hbx.size
                    have d3 : g < WC.heap.size := Nat.lt_of_lt_of_le hg hbx.size
                    have d4 : WC.cell? ⟨g, kk * 4, none⟩ = some (.int .i64 tn) := (hbx.cell (p := ⟨g, _, none⟩) hg).trans a0
                    have d5 : WC.cell? ⟨g, kk * 4 + 1, none⟩ = some (.int .i64 ti) := (hbx.cell (p := ⟨g, _, none⟩) hg).trans a1
                    have d6 : WC.cell? ⟨g, kk * 4 + 2, none⟩ = some (.int .i64 th) := (hbx.cell (p := ⟨g, _, none⟩) hg).trans a2
                    have d7 : WC.cell? ⟨g, kk * 4 + 3, none⟩ = some (.int .i64 T) := (hbx.cell (p := ⟨g, _, none⟩) hg).trans a3
                    have HBx := Lib.hid hbx
                    clear hbox hbx hc1 hc2 hg a0 a1 a2 a3 HAt
                    have gk : decide ((0 : Int) ≤ (kk : Int)) = true := by simp
                    go_wp2_with fail
                    refine Gives.mono' HAt1.out ?_
                    intro x2
                    go_upto_region 20 with fail
                    go_quiet (fail)
                    go_wp2_with fail
                    go_roundw
                    case rel => exact ⟨N + 1, by go_num, by omega, by omega, Later.ex (by repeat (first | exact HBx.out | refine ext_later ?_ _ | refine ext_alloc ?_ _ | refine ext_drew ?_ | refine ext_drewN ?_ _))⟩
                    case measure => simp [intOf]; omega
                · obtain rfl : N = 9 := by omega
                  go_wp2_with fail
                  go_roundw
                  case rel => exact ⟨k + 1, R2, L2, by go_num, by omega, HSA.out.later x⟩
                  case measure => simp [intOf]; omega
        · have gd : ((d : Int) == 0) = false := by simpa using hd
          go_wp2_with fail
          have HT1 := Lib.hid (ps_put1 (HW.out.later ⟨W1.drew, ext_drew (ext_refl W1)⟩) ⟨cn, ci, ch⟩)
          unfold Cl.val at HT1
          dsimp only at HT1
          have HT2 : Hid (∀ (W : World) (R' : List Td) (H : Nat → Prop), R'.Perm (putOf L ⟨cn, ci, ch⟩).1 → L.length ≤ 1000 → PMid w [cb] w.heap.size m OF R' L W H → Calls Try.prog 15 #[.pointer (some ⟨m, 0, none⟩), .agg #[.int .i64 cn, .int .i64 ci, .int .i64 ch]] W fun e W' => e = .returned (.bool (putOf L ⟨cn, ci, ch⟩).2) ∧ (∃ R' L', PS w [cb] w.heap.size m OF R' L' W') ∧ Keeps [cb] W W') := Lib.hid fun W R' H h1 h2 h3 => ps_put2 h1 h2 h3
          obtain ⟨B, hB⟩ : ∃ B, (putOf L ⟨cn, ci, ch⟩).2 = B := ⟨_, rfl⟩
          rw [hB] at HT1 HT2
          clear HBox hB
          go_region_law (first | (refine stp_call2 (R := fun v w' => v = .bool B ∧ Hid (∃ R' L', PS w [cb] w.heap.size m OF R' L' w')) (v0 := .pointer (some ⟨m, 0, none⟩)) (v1 := .agg #[.int .i64 cn, .int .i64 ci, .int .i64 ch]) rfl 15 _ _ _ rfl Try.call15 (by rfl) (by rfl) (by obtain ⟨R', H, h1, h2, h3⟩ := HMid.out; exact (HT2.out _ _ _ h1 h2 h3).mono fun e w' ⟨he, hx, _⟩ => ⟨_, he, rfl, Lib.hid hx⟩) ?_; rintro _ w5 ⟨rfl, HEnd⟩) | (refine stp_call2 (R := fun v w' => v = .bool B ∧ (Hid (∃ R' H, R'.Perm (putOf L ⟨cn, ci, ch⟩).1 ∧ L.length ≤ 1000 ∧ PMid w [cb] w.heap.size m OF R' L w' H) ∧ Keeps [cb] W1.drew w')) (v0 := .pointer (some ⟨w.heap.size, 0, none⟩)) (v1 := .agg #[.int .i64 cn, .int .i64 ci, .int .i64 ch]) rfl 14 _ _ _ rfl Try.call14 (by rfl) (by rfl) (HT1.out.mono fun e w' ⟨he, hx, hk⟩ => ⟨_, he, rfl, Lib.hid hx, hk⟩) ?_; rintro _ w4 ⟨rfl, HMid, hkp⟩; have f2 : w4.cell? ⟨cb, 2, none⟩ = some (.int .i64 cn) := (hkp.cell (by simp) 2).trans e2; have f3 : w4.cell? ⟨cb, 3, none⟩ = some (.int .i64 ci) := (hkp.cell (by simp) 3).trans e3; have f4 : w4.cell? ⟨cb, 4, none⟩ = some (.int .i64 ch) := (hkp.cell (by simp) 4).trans e4; clear hkp))
          all_goals
            obtain ⟨R2, L2, hps⟩ := HEnd.out
            have HS9 := Lib.hid hps.narrower
            clear hps HEnd HMid HT1 HT2 e0 e1 e2 e3 e4 f2 f3 f4 HW
            go_wp2_with fail
            obtain ⟨W9, hW9⟩ : ∃ W, w5 = W := ⟨_, rfl⟩
            rw [hW9] at HS9 ⊢
            clear hW9
            have HLen : Hid (∀ x : Later W9, Gives Try.prog 16 #[.pointer (some ⟨w.heap.size, 0, none⟩)] x.w (.int .i64 L2.length)) := Lib.hid fun x => ps_len (HS9.out.later x)
            obtain ⟨pm, cm, hcells⟩ := ps_cells HS9.out
            have c1 := hcells.h1
            have c2 := hcells.lt
            clear hcells
            go_region_law (refine stp_call1 (R := fun v w' => v = .int .i64 L2.length ∧ ∃ x : Later W9, w' = x.w) (v0 := .pointer (some ⟨w.heap.size, 0, none⟩)) rfl 16 _ _ rfl Try.call16 (by rfl) ((HLen.out ⟨W9.drew, ext_drew (ext_refl W9)⟩).mono fun e w' ⟨he, x, hx⟩ => ⟨_, he, rfl, Later.ex (by rw [hx]; exact ext_later (ext_drew (ext_refl W9)) x)⟩) ?_; rintro _ _ ⟨rfl, x9, rfl⟩)
            all_goals
              have HSA := Lib.hid (HS9.out.later x9)
              go_upto_region 15 with fail
              clear c1 c2 HLen
              obtain ⟨WA, hWA⟩ : ∃ W, x9.w = W := ⟨_, rfl⟩
              rw [hWA] at HSA ⊢
              clear hWA HS9
              obtain ⟨WB, hWB⟩ : ∃ W, W = WA := ⟨_, rfl⟩
              subst hWB
              have HCells := Lib.hid (ps_cells HSA.out)
              have HL8 : Hid (L2.length ≤ 8) := Lib.hid (by have h1 := HSA.out.perm.length_eq; have h2 := HSA.out.fine.len; omega)
              go_wp2_with fail
              go_loopw [9] (fun v9 wz => ∃ N : Int, v9 = .int .i64 N ∧ -1 ≤ N ∧ N ≤ 9 ∧ ∃ x : Later WB, wz = x.w) (fun v9 _ => (9 - intOf v9).toNat)
              case atStart => exact ⟨-1, rfl, by omega, by omega, ⟨WB, Below.refl _ _⟩, rfl⟩
              case round =>
                obtain ⟨N, rfl, hN1, hN2, x, rfl⟩ := hrel
                by_cases hN : N ≤ 8
                · have gN : decide (N ≤ 8) = true := by simpa using hN
                  have HAt : Hid (∀ y : Later WB, Gives Try.prog 18 #[.pointer (some ⟨m, 0, none⟩), .int .i64 N] y.w (.int .i64 (atIx L2 N))) := Lib.hid fun y => ps_at (HSA.out.later y) N
                  rcases find_ix L2 N with ⟨hn, ha⟩ | ⟨kk, ⟨⟨tn, ti, th⟩, tk⟩, hn, hkk, ha, htn⟩
                  · have HH := Lib.hid ((ps_has (HSA.out.later x) N).cast (by rw [hn]; rfl : hasV (hasOf L2 N) = .tuple #[.agg #[.int .i64 0, .int .i64 0, .int .i64 0], .int .i64 0, .bool false]))
                    rw [ha] at HAt
                    clear hn ha
                    go_wp2_with fail
                    refine Gives.on HH.out ?_
                    intro x1
                    go_upto_region 19 with fail
                    have HAt1 := Lib.hid (HAt.out ⟨x1.w.alloc (.cells #[.int .i64 0, .int .i64 0, .int .i64 0] 28), ext_alloc x1.below _⟩)
                    have HBx := Lib.hid (ext_alloc x1.below (.cells #[.int .i64 0, .int .i64 0, .int .i64 0] 28))
                    have hbox := heap_alloc_new x1.w (.cells #[.int .i64 0, .int .i64 0, .int .i64 0] 28)
                    dsimp only at HAt1
                    obtain ⟨WC, hWC⟩ : ∃ W, x1.w.alloc (.cells #[.int .i64 0, .int .i64 0, .int .i64 0] 28) = W := ⟨_, rfl⟩
                    rw [hWC] at HAt1 HBx hbox ⊢
                    obtain ⟨b10, hb10⟩ : ∃ b, x1.w.heap.size = b := ⟨_, rfl⟩
                    rw [hb10] at hbox ⊢
                    clear hWC hb10 HH
                    have k0 : WC.cell? ⟨b10, 0, none⟩ = some (.int .i64 0) := by simp [World.cell?, hbox]
                    have k1 : WC.cell? ⟨b10, 1, none⟩ = some (.int .i64 0) := by simp [World.cell?, hbox]
                    have k2 : WC.cell? ⟨b10, 2, none⟩ = some (.int .i64 0) := by simp [World.cell?, hbox]
                    have k3 : b10 < WC.heap.size := (Array.getElem?_eq_some_iff.1 hbox).1
                    clear hbox
                    go_wp2_with fail
                    refine Gives.mono' HAt1.out ?_
                    intro x2
                    go_upto_region 20 with fail
                    go_quiet (fail)
                    go_wp2_with fail
                    go_roundw
                    case rel => exact ⟨N + 1, by go_num, by omega, by omega, Later.ex (by repeat (first | exact HBx.out | refine ext_later ?_ _ | refine ext_alloc ?_ _ | refine ext_drew ?_ | refine ext_drewN ?_ _))⟩
                    case measure => simp [intOf]; omega
                  · obtain ⟨pq, cq, hcl⟩ := HCells.out
                    have hkl := (List.getElem?_eq_some_iff.1 hkk).1
                    have hL8 := HL8.out
                    obtain ⟨T, hT⟩ : ∃ T : Int, (tk : Int) = T := ⟨_, rfl⟩
                    have HH := Lib.hid ((ps_has (HSA.out.later x) N).cast (by rw [hn, ← hT]; rfl : hasV (hasOf L2 N) = .tuple #[.agg #[.int .i64 tn, .int .i64 ti, .int .i64 th], .int .i64 T, .bool true]))
                    rw [ha] at HAt
                    obtain ⟨K, hK⟩ : ∃ K : Nat, L2.length = K := ⟨_, rfl⟩
                    have hc1 := hcl.h1
                    have hc2 := hcl.lt
                    rcases hcl.row with h0 | ⟨g, rfl, hg, hgq, _, hrow⟩
                    · rw [h0] at hkl; simp at hkl
                    obtain ⟨a0, a1, a2, a3⟩ := hrow kk _ hkk
                    dsimp only at a0 a1 a2 a3
                    rw [hT] at a3
                    rw [hK] at hc1 hkl hL8
                    clear hn ha htn hT hkk hrow hcl hK
                    go_wp2_with fail
                    refine Gives.on HH.out ?_
                    intro x1
                    go_upto_region 19 with fail
                    have HAt1 := Lib.hid (HAt.out ⟨x1.w.alloc (.cells #[.int .i64 tn, .int .i64 ti, .int .i64 th] 28), ext_alloc x1.below _⟩)
                    have hbx := ext_alloc x1.below (.cells #[.int .i64 tn, .int .i64 ti, .int .i64 th] 28)
                    have hbox := heap_alloc_new x1.w (.cells #[.int .i64 tn, .int .i64 ti, .int .i64 th] 28)
                    dsimp only at HAt1
                    obtain ⟨WC, hWC⟩ : ∃ W, x1.w.alloc (.cells #[.int .i64 tn, .int .i64 ti, .int .i64 th] 28) = W := ⟨_, rfl⟩
                    rw [hWC] at HAt1 hbx hbox ⊢
                    obtain ⟨b10, hb10⟩ : ∃ b, x1.w.heap.size = b := ⟨_, rfl⟩
                    rw [hb10] at hbox ⊢
                    clear hWC hb10 HH
                    have k0 : WC.cell? ⟨b10, 0, none⟩ = some (.int .i64 tn) := by simp [World.cell?, hbox]
                    have k1 : WC.cell? ⟨b10, 1, none⟩ = some (.int .i64 ti) := by simp [World.cell?, hbox]
                    have k2 : WC.cell? ⟨b10, 2, none⟩ = some (.int .i64 th) := by simp [World.cell?, hbox]
                    have k3 : b10 < WC.heap.size := (Array.getElem?_eq_some_iff.1 hbox).1
                    have d1 : WC.cell? ⟨m, 1, none⟩ = some (.slice (some ⟨g, 0, none⟩) K cq) := (hbx.cell (p := ⟨m, _, none⟩) hc2).trans hc1
                    have d2 : m < WC.heap.size := Nat.lt_of_lt_of_le hc2 hbx.size
                    have d3 : g < WC.heap.size := Nat.lt_of_lt_of_le hg hbx.size
                    have d4 : WC.cell? ⟨g, kk * 4, none⟩ = some (.int .i64 tn) := (hbx.cell (p := ⟨g, _, none⟩) hg).trans a0
                    have d5 : WC.cell? ⟨g, kk * 4 + 1, none⟩ = some (.int .i64 ti) := (hbx.cell (p := ⟨g, _, none⟩) hg).trans a1
                    have d6 : WC.cell? ⟨g, kk * 4 + 2, none⟩ = some (.int .i64 th) := (hbx.cell (p := ⟨g, _, none⟩) hg).trans a2
                    have d7 : WC.cell? ⟨g, kk * 4 + 3, none⟩ = some (.int .i64 T) := (hbx.cell (p := ⟨g, _, none⟩) hg).trans a3
                    have HBx := Lib.hid hbx
                    clear hbox hbx hc1 hc2 hg a0 a1 a2 a3 HAt
                    have gk : decide ((0 : Int) ≤ (kk : Int)) = true := by simp
                    go_wp2_with fail
                    refine Gives.mono' HAt1.out ?_
                    intro x2
                    go_upto_region 20 with fail
                    go_quiet (fail)
                    go_wp2_with fail
                    go_roundw
                    case rel => exact ⟨N + 1, by go_num, by omega, by omega, Later.ex (by repeat (first | exact HBx.out | refine ext_later ?_ _ | refine ext_alloc ?_ _ | refine ext_drew ?_ | refine ext_drewN ?_ _))⟩
                    case measure => simp [intOf]; omega
                · obtain rfl : N = 9 := by omega
                  go_wp2_with fail
                  go_roundw
                  case rel => exact ⟨k + 1, R2, L2, by go_num, by omega, HSA.out.later x⟩
                  case measure => simp [intOf]; omega
    · obtain rfl : k = l.length := by omega
      go_wp2_with fail
      refine Gives.mono' (HA.out _) ?_
      intro x3
      go_wp2_with fail
      go_ret
      exact ⟨rfl, Later.ex (below_later HS.out.below HS.out.below.size x3)⟩
end Go.Proofs.Ytlcmehighgmoeaa
