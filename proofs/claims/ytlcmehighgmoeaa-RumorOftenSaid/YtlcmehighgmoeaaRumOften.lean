/- RumorOften's walk. -/
import Derived.Test.YtlcmehighgmoeaaRumOftenMath
import Derived.Laws.Rows
namespace Go.Proofs.Ytlcmehighgmoeaa
open Go Go.RowKit

theorem putOf_zero {R : List Td} (h : ∀ t ∈ R, t.n = 0) (c : Cl) : ∀ t ∈ (putOf R c).1, t.n = 0 := by
  intro t ht
  unfold putOf at ht
  split at ht
  · exact h t ht
  · split at ht
    · rcases List.mem_append.1 ht with h1 | h1
      · exact h t h1
      · obtain rfl : t = ⟨c, 0⟩ := by simpa using h1
        rfl
    · split at ht
      · split at ht
        · exact h t ht
        · rcases List.mem_or_eq_of_mem_set ht with h1 | rfl
          · exact h t h1
          · rfl
      · exact h t ht

/-- Between two rounds: R is there; the table tells how often each was told. -/
structure OftenInv (often : Nat) (R0 R : List Td) (k : Nat) : Prop where
  even : Even R
  sub : ∀ t ∈ R, ∃ u ∈ R0, u.c.n = t.c.n
  mu : mu often R + k ≤ 8 * often ∨ R = []
theorem OftenInv.start {often : Nat} {R : List Td} (hf : Fine often R) (h : ∀ t ∈ R, t.n = 0) : OftenInv often R R 0 := by
  refine ⟨fun t ht u hu => by rw [h t ht, h u hu]; omega, fun t ht => ⟨t, ht, rfl⟩, .inl ?_⟩
  rw [mu_first h]
  have h1 := hf.len
  have h2 := Nat.mul_le_mul_right often h1
  omega
theorem OftenInv.take {often : Nat} {R0 R O rem R' : List Td} {k N : Nat} (h : OftenInv often R0 R k) (hf : Fine often R) (hp : Picked R O rem) (hr : R'.Perm (rem ++ backOf often O)) (hN : 1 ≤ N) (hl : (O.length : Int) = min (max (N : Int) 0) R.length) : OftenInv often R0 R' (k + 1) := by
  refine ⟨h.even.take hp hr, fun t ht => ?_, ?_⟩
  · rcases List.mem_append.1 (hr.subset ht) with h1 | h1
    · exact h.sub t (hp.perm.subset (List.mem_append_right _ h1))
    · obtain ⟨_, v, hv, e, _⟩ := backOf_mem h1
      rw [e]
      exact h.sub v (hp.perm.subset (List.mem_append_left _ hv))
  · have hm := mu_take hf hp hr
    rcases h.mu with h1 | rfl
    · by_cases h0 : R.length = 0
      · right
        have hz : R = [] := List.eq_nil_of_length_eq_zero h0
        subst hz
        have := hr.length_eq
        have h3 := hp.perm.length_eq
        simp only [List.length_append, List.length_nil] at this h3
        have h4 : (backOf often O).length ≤ O.length := by
          unfold backOf
          refine Nat.le_trans (List.length_filter_le _ _) ?_
          rw [List.length_map]
          omega
        exact List.eq_nil_of_length_eq_zero (by omega)
      · left
        omega
    · right
      have := hr.length_eq
      have h3 := hp.perm.length_eq
      simp only [List.length_append, List.length_nil] at this h3
      have h4 : (backOf often O).length ≤ O.length := by
        unfold backOf
        refine Nat.le_trans (List.length_filter_le _ _) ?_
        rw [List.length_map]
        omega
      exact List.eq_nil_of_length_eq_zero (by omega)
theorem OftenInv.done {often : Nat} {R0 R : List Td} {k : Nat} (h : OftenInv often R0 R k) (hf : Fine often R) (hk : 8 * often ≤ k) : R = [] := by
  rcases h.mu with h1 | h1
  · exact mu_pos hf (by omega)
  · exact h1

set_option maxHeartbeats 4000000 in
set_option maxRecDepth 100000 in
theorem oftenLaw_any (often n : Int) (v : Value) (l : List Cl) (w : World) (_ : (Lit.int .i64 often).wf = true) (_ : (Lit.int .i64 n).wf = true) (hl : ListAt w v l) (hm : l.length * 24 ≤ 140737488351232) : Gives Try.prog 5 #[.int .i64 often, .int .i64 n, v] w (.bool true) := by
  unfold Gives
  obtain ⟨p, cap, rfl, hcell⟩ := hl.form
  have HL := Lib.hid hcell
  clear hcell hl
  obtain ⟨K0, hK, hmod, hmod1⟩ := mod_small 20 (by decide) (by decide) often
  obtain ⟨K1, hK1, hmodn, hmodn1⟩ := mod_small 5 (by decide) (by decide) n
  obtain ⟨OF, hOF⟩ : ∃ OF, K0 + 1 = OF := ⟨_, rfl⟩
  obtain ⟨N, hN⟩ : ∃ N, K1 + 1 = N := ⟨_, rfl⟩
  rw [hOF] at hmod1
  rw [hN] at hmodn1
  have HM0 := Lib.hid hmod
  have HM1 := Lib.hid hmod1
  have HM2 := Lib.hid hmodn
  have HM3 := Lib.hid hmodn1
  have hOF1 : 1 ≤ OF := by omega
  have hOF2 : OF ≤ 20 := by omega
  have hN1 : 1 ≤ N := by omega
  have hN2 : N ≤ 5 := by omega
  clear hmod hmod1 hmodn hmodn1 hOF hN hK hK1
  have HA := Lib.hid awakeR_any
  have HN := Lib.hid (qs_new w [] (OF : Int) OF (by omega) w (ext_refl w) (fun b hb => by simp at hb))
  go_enter Try.func5, Try.ntmps5
  go_wp2_with fail
  rw [HM0.out, HM1.out, HM2.out, HM3.out]
  clear HM0 HM1 HM2 HM3
  refine HN.out.mono ?_
  rintro e w1 ⟨rfl, hq1, _⟩
  have HC1 := Lib.hid (Cnt.start hq1)
  clear hq1 HN
  go_upto_region 4 with fail
  obtain ⟨tb, htb⟩ : ∃ b, w1.heap.size = b := ⟨_, rfl⟩
  obtain ⟨w2, hw2⟩ : ∃ W, w1.alloc (.cells #[.int .i64 0, .int .i64 0, .int .i64 0, .int .i64 0, .int .i64 0, .int .i64 0, .int .i64 0, .int .i64 0] 48) = W := ⟨_, rfl⟩
  rw [htb, hw2] at HC1 ⊢
  clear htb hw2
  have HPut : Hid (∀ R W c, Cnt w tb w.heap.size OF R (fun _ => 0) W → (∀ t ∈ R, t.n = 0) → Calls Try.prog 14 #[.pointer (some ⟨w.heap.size, 0, none⟩), Cl.val c] W fun e W' => ∃ b : Bool, e = .returned (.bool b) ∧ Hid (∃ R', Cnt w tb w.heap.size OF R' (fun _ => 0) W' ∧ ∀ t ∈ R', t.n = 0)) := Lib.hid fun R W c h hz => (qs_put h.qs c).mono fun e W' ⟨R', he, hp, hq, hk⟩ => ⟨_, he, Lib.hid ⟨R', h.mk' hq hk, fun t ht => putOf_zero hz c t (hp.subset ht)⟩⟩
  go_wp2_with fail
  go_loopw [38] (fun v38 wr => ∃ (k : Nat) (R : List Td), v38 = .int .i64 k ∧ k ≤ l.length ∧ Cnt w tb w.heap.size OF R (fun _ => 0) wr ∧ ∀ t ∈ R, t.n = 0) (fun v38 _ => l.length - (intOf v38).toNat)
  case atStart => exact ⟨0, [], rfl, by omega, HC1.out, fun t ht => by simp at ht⟩
  case round =>
    clear HC1
    obtain ⟨k, R, rfl, hk, hs, hz⟩ := hrel
    have HS := Lib.hid hs
    have HZ := Lib.hid hz
    clear hs hz
    by_cases hkl : k < l.length
    · obtain ⟨⟨m, i, s⟩, hkc⟩ : ∃ c, l[k]? = some c := ⟨_, List.getElem?_eq_getElem hkl⟩
      rcases HL.out with h0 | ⟨b, o, rfl, hlt, hc⟩
      · rw [h0] at hkl; simp at hkl
      obtain ⟨h0, h1, h2⟩ := hc k _ hkc
      have hB := HS.out.qs.below
      have hc0 : wr.cell? ⟨b, o + k * 3, none⟩ = some (.int .i64 m) := (hB.cell (p := ⟨b, _, none⟩) hlt).trans h0
      have hc1 : wr.cell? ⟨b, o + k * 3 + 1, none⟩ = some (.int .i64 i) := (hB.cell (p := ⟨b, _, none⟩) hlt).trans h1
      have hc2 : wr.cell? ⟨b, o + k * 3 + 2, none⟩ = some (.int .i64 s) := (hB.cell (p := ⟨b, _, none⟩) hlt).trans h2
      have HX := Lib.hid (HS.out.later ⟨wr.alloc (.cells #[.int .i64 m, .int .i64 i, .int .i64 s] 28), ext_alloc (ext_refl _) _⟩)
      dsimp only at HX
      clear h0 h1 h2 hc hkc hB
      have hkd : decide ((k : Int) < (l.length : Int)) = true := by simp; omega
      by_cases h50 : k < 50
      · have g50 : decide ((k : Int) < 50) = true := by simp; omega
        have HP := Lib.hid (HPut.out _ _ ⟨m, i, s⟩ HX.out HZ.out)
        unfold Cl.val at HP
        dsimp only at HP
        go_wp2_with fail
        refine HP.out.mono ?_
        rintro e w3 ⟨bb, rfl, HE⟩
        go_wp2_with fail
        go_roundw
        case rel =>
          obtain ⟨R', hq, hz⟩ := HE.out
          exact ⟨k + 1, R', by go_num, by omega, hq, hz⟩
        case measure => simp [intOf]; omega
      · have g50 : decide ((k : Int) < 50) = false := by simp; omega
        go_wp2_with fail
        go_roundw
        case rel => exact ⟨k + 1, R, by go_num, by omega, HX.out, HZ.out⟩
        case measure => simp [intOf]; omega
    · obtain rfl : k = l.length := by omega
      have HLen := Lib.hid (qs_len HS.out.qs)
      have HF0 := Lib.hid HS.out.qs.fine
      have HI0 := Lib.hid (OftenInv.start HS.out.qs.fine HZ.out)
      have HC0 := Lib.hid (HS.out.cast (g := fun j => toldOf OF R R j) fun j hj => by
        unfold toldOf
        cases hf : hasOf R (j : Int) with
        | none =>
          have : here R j = 0 := here_zero.2 (hasOf_none.1 hf)
          rw [this]; simp
        | some t =>
          have := HZ.out t (hasOf_mem hf).1
          simp [this])
      clear HPut HL hkl hk HS HZ
      go_wp2_with fail
      refine Gives.mono' HLen.out ?_
      intro x0
      have HC1 := Lib.hid (HC0.out.later x0)
      obtain ⟨R0, hR0⟩ : ∃ L, R = L := ⟨_, rfl⟩
      rw [hR0] at HC1 HI0 HF0 ⊢
      have HB : Hid (R0.length ≤ 8) := Lib.hid HF0.out.len
      clear HC0 HLen
      subst hR0
      obtain ⟨RL, hRL⟩ : ∃ r : Nat, R.length = r := ⟨_, rfl⟩
      have HRL := Lib.hid hRL
      rw [hRL]
      have hRL8 : RL ≤ 8 := by have := HB.out; omega
      clear hRL HB
      go_wp2_with fail
      go_loopw [54] (fun v54 wr => ∃ (k : Nat) (R' : List Td), v54 = .int .i64 k ∧ k ≤ OF * 8 + 1 ∧ Cnt w tb w.heap.size OF R' (fun j => toldOf OF R R' j) wr ∧ OftenInv OF R R' k) (fun v54 _ => OF * 8 + 1 - (intOf v54).toNat)
      case atStart => exact ⟨0, R, rfl, by omega, HC1.out, HI0.out⟩
      case round =>
        clear HC1 HI0
        obtain ⟨k, R', rfl, hk, hc, hi⟩ := hrel
        have HC := Lib.hid hc
        have HI := Lib.hid hi
        clear hc hi
        by_cases hko : k < OF * 8 + 1
        · have hkd : decide ((k : Int) < (OF : Int) * 8 + 1) = true := by simp; omega
          have HTk : Hid (Calls Try.prog 12 #[.pointer (some ⟨w.heap.size, 0, none⟩), .int .i64 N] wr fun e W' => ∃ (O : List Td) (pu : Option Addr) (cu : Nat) (R2 : List Td), e = .returned (.slice pu O.length cu) ∧ (O.length ≤ N ∧ (R2.length ≠ 0 → O.length ≠ 0)) ∧ Hid (∃ rem, Picked R' O rem ∧ R2.Perm (rem ++ backOf OF O) ∧ (O.length : Int) = min (max (N : Int) 0) R'.length) ∧ Hid (Cnt w tb w.heap.size OF R2 (fun j => toldOf OF R R' j) W') ∧
              Hid (0 < O.length → ∃ g, pu = some ⟨g, 0, none⟩ ∧ g < W'.heap.size ∧ g ≠ tb ∧ ∀ k t, O[k]? = some t → W'.cell? ⟨g, k * 3, none⟩ = some (.int .i64 t.c.n) ∧ W'.cell? ⟨g, k * 3 + 1, none⟩ = some (.int .i64 t.c.i) ∧ W'.cell? ⟨g, k * 3 + 2, none⟩ = some (.int .i64 t.c.h))) := Lib.hid ((qs_take HC.out.qs N).mono fun e W' ⟨u, O, rem, R2, he, hp, hc, hrow, hpm, hq, hk⟩ => by
            obtain ⟨pu, cu, rfl⟩ := ownsRow_form hrow
            refine ⟨O, pu, cu, R2, he, ⟨by omega, fun h1 h2 => h1 ?_⟩, Lib.hid ⟨rem, hp, hpm, hc⟩, Lib.hid (HC.out.mk' hq hk), Lib.hid fun hO => ?_⟩
            · have hO : O = [] := List.eq_nil_of_length_eq_zero h2
              subst hO
              have h3 := hp.perm.length_eq
              have h4 := hpm.length_eq
              simp only [List.nil_append, List.length_nil] at h3 hc
              simp [backOf] at h4
              omega
            · obtain ⟨g, cap', hv, hge, hg, hcell⟩ := listAt_cells (l := O.map (·.c)) (by simpa using hrow) (by simpa using hO)
              refine ⟨g, (Value.slice.inj hv).1, hg, ?_, fun k t hk => hcell k t.c (by simp [hk])⟩
              have := HC.out.lt
              omega)
          have HF := Lib.hid HC.out.qs.fine
          clear HC
          go_wp2_with fail
          refine HTk.out.mono ?_
          rintro e w6 ⟨O, pu, cu, R2, rfl, ⟨ho1, ho2⟩, HP, HC6, HRow⟩
          have HLen := Lib.hid (qs_len HC6.out.qs)
          obtain ⟨r2, hr2⟩ : ∃ r : Nat, R2.length = r := ⟨_, rfl⟩
          rw [hr2] at HLen ho2
          clear HTk hr2
          go_wp2_with fail
          refine Gives.mono' HLen.out ?_
          intro x6
          have gN : decide ((N : Int) < (O.length : Int)) = false := by simp; omega
          have gN2 : decide (N < O.length) = false := by simp; omega
          have HC7 := Lib.hid (HC6.out.later x6)
          have HRow7 : Hid (0 < O.length → ∃ g, pu = some ⟨g, 0, none⟩ ∧ g < x6.w.heap.size ∧ g ≠ tb ∧ ∀ k t, O[k]? = some t → x6.w.cell? ⟨g, k * 3, none⟩ = some (.int .i64 t.c.n) ∧ x6.w.cell? ⟨g, k * 3 + 1, none⟩ = some (.int .i64 t.c.i) ∧ x6.w.cell? ⟨g, k * 3 + 2, none⟩ = some (.int .i64 t.c.h)) := Lib.hid fun hO => by
            obtain ⟨g, h1, h2, h3, h4⟩ := HRow.out hO
            exact ⟨g, h1, Nat.lt_of_lt_of_le h2 x6.below.size, h3, fun k t hk => by
              obtain ⟨a0, a1, a2⟩ := h4 k t hk
              exact ⟨(x6.below.cell (p := ⟨g, _, none⟩) h2).trans a0, (x6.below.cell (p := ⟨g, _, none⟩) h2).trans a1, (x6.below.cell (p := ⟨g, _, none⟩) h2).trans a2⟩⟩
          obtain ⟨w7, hw7⟩ : ∃ W, x6.w = W := ⟨_, rfl⟩
          rw [hw7] at HC7 HRow7 ⊢
          clear hw7 HLen HC6 HRow
          have hcase : r2 = 0 ∨ (0 < r2 ∧ ((O.length : Int) == 0) = false) := by
            by_cases h0 : r2 = 0
            · exact .inl h0
            · exact .inr ⟨by omega, by rw [beq_eq_false_iff_ne]; have := ho2 h0; omega⟩
          have hO5 : O.length ≤ 5 := by omega
          clear ho1 ho2
          rcases hcase with rfl | ⟨gr1, gr2⟩
          all_goals
            go_upto_region 17 with fail
            try clear gr1 gr2
            clear gN gN2
            go_wp2_with fail
            go_loopw [75] (fun v75 wz => ∃ i : Nat, v75 = .int .i64 i ∧ i ≤ O.length ∧ Cnt w tb w.heap.size OF R2 (fun j => toldOf OF R R' j + here (O.take i) j) wz ∧ Fr (fun b => b = tb) w7 wz) (fun v75 _ => O.length - (intOf v75).toNat)
            case atStart => exact ⟨0, rfl, by omega, HC7.out.cast fun j hj => by simp [here, hasOf], Fr.refl _ _⟩
            case round =>
              obtain ⟨i, rfl, hi, hcz, hfr⟩ := hrel
              have HCZ := Lib.hid hcz
              have HFr := Lib.hid hfr
              clear hcz hfr
              by_cases hio : i < O.length
              · obtain ⟨rem, hpick, hpm, hcnt⟩ := HP.out
                obtain ⟨g, rfl, hg, hgt, hcell⟩ := HRow7.out (by omega)
                obtain ⟨t, ht⟩ : ∃ t, O[i]? = some t := ⟨_, List.getElem?_eq_getElem hio⟩
                have htR : t ∈ R' := hpick.perm.subset (List.mem_append_left _ (List.mem_of_getElem? ht))
                have hnode := HF.out.node htR
                obtain ⟨m, hm'⟩ : ∃ m : Nat, t.c.n = m := ⟨t.c.n.toNat, by omega⟩
                have hm8 : m < 8 := by omega
                have honO : Once O := (List.pairwise_append.1 (once_perm hpick.perm.symm HF.out.once)).1
                obtain ⟨a0, a1, a2⟩ := hcell i t ht
                rw [hm'] at a0
                have hblk := HFr.out.block g hg hgt
                have hgz : g < wr.heap.size := Nat.lt_of_lt_of_le hg HFr.out.size
                have d1 : wr.cell? ⟨g, i * 3, none⟩ = some (.int .i64 m) := by rw [← a0]; simp [World.cell?, hblk]
                have d2 : wr.cell? ⟨g, i * 3 + 1, none⟩ = some (.int .i64 t.c.i) := by rw [← a1]; simp [World.cell?, hblk]
                have d3 : wr.cell? ⟨g, i * 3 + 2, none⟩ = some (.int .i64 t.c.h) := by rw [← a2]; simp [World.cell?, hblk]
                have hold := here_old honO ht hm'
                have hstep := fun j => here_step honO ht hm' j
                have hrange := told_range (R0 := R) HF.out m
                have hfm : toldOf OF R R' m + here (O.take i) m = toldOf OF R R' m := by rw [hold]; omega
                obtain ⟨F, hFeq⟩ : ∃ F, toldOf OF R R' m = F := ⟨_, rfl⟩
                rw [hFeq] at hrange
                obtain ⟨hF0, hF1⟩ := hrange
                have HNew : Hid (∀ W, Cnt w tb w.heap.size OF R2 (fun j => toldOf OF R R' j + here (O.take i) j) W → W.cell? ⟨tb, m, none⟩ = some (.int .i64 F) ∧ W.frozen? ⟨tb, m, none⟩ = false ∧ tb < W.heap.size ∧ Cnt w tb w.heap.size OF R2 (fun j => toldOf OF R R' j + here (O.take (i + 1)) j) (W.setCell ⟨tb, m, none⟩ (.int .i64 (F + 1)))) := Lib.hid fun W h => ⟨by rw [h.cell m hm8, hfm, hFeq], h.fz m, h.lt, (h.set m hm8 (F + 1)).cast fun j hj => by
                  by_cases e : j = m
                  · subst e; rw [if_pos rfl, hstep j, if_pos rfl, hFeq]
                  · rw [if_neg e, hstep j, if_neg e]⟩
                have HNd : Hid (∀ W, Gives Try.prog 20 #[.int .i64 m] W (.bool true)) := Lib.hid fun W => (refNode_any m W).cast (by rw [show nodeB m = true from by simp only [nodeB, decide_eq_true_eq]; omega])
                obtain ⟨I, hI⟩ : ∃ I, t.c.i = I := ⟨_, rfl⟩
                obtain ⟨H, hH⟩ : ∃ I, t.c.h = I := ⟨_, rfl⟩
                rw [hI] at d2
                rw [hH] at d3
                have gio : decide ((i : Int) < (O.length : Int)) = true := by simp; omega
                clear hpick hpm hcnt hcell htR hnode honO a0 a1 a2 hblk hold hstep hfm hFeq hI hH hm' ht
                go_wp2_with fail
                refine Gives.mono' (HNd.out _) ?_
                intro x8
                have HC8 := Lib.hid (HNew.out _ ((HCZ.out.later ⟨wr.alloc (.cells #[.int .i64 m, .int .i64 I, .int .i64 H] 28), ext_alloc (ext_refl _) _⟩).later x8))
                have HFr8 := Lib.hid ((HFr.out.alloc (.cells #[.int .i64 m, .int .i64 I, .int .i64 H] 28)).later x8)
                dsimp only at HC8
                obtain ⟨e0, e1, e2, _⟩ := HC8.out
                go_wp2_with fail
                go_roundw
                case rel => exact ⟨i + 1, by go_num, by omega, HC8.out.2.2.2, HFr8.out.set tb m _ (.inl rfl)⟩
                case measure => simp [intOf]; omega
              · obtain rfl : i = O.length := by omega
                have HC9 : Hid (Cnt w tb w.heap.size OF R2 (fun j => toldOf OF R R2 j) wr) := Lib.hid (HCZ.out.cast fun j hj => by
                  obtain ⟨rem, hpick, hpm, hcnt⟩ := HP.out
                  rw [List.take_length]
                  exact (told_take HF.out hpick hpm HI.out.sub j).symm)
                have HI9 : Hid (OftenInv OF R R2 (k + 1)) := Lib.hid (by
                  obtain ⟨rem, hpick, hpm, hcnt⟩ := HP.out
                  exact HI.out.take HF.out hpick hpm hN1 hcnt)
                have HF9 := Lib.hid HC9.out.qs.fine
                clear HCZ HFr HRow7 HP HI HF HC7
                obtain ⟨w9, hw9⟩ : ∃ W, W = wr := ⟨_, rfl⟩
                subst hw9
                go_wp2_with fail
                go_loopw [15, 16, 91] (fun v15 v16 v91 wz => ∃ (j : Nat) (a b : Int), v91 = .int .i64 j ∧ j ≤ 8 ∧ v15 = .int .i64 a ∧ v16 = .int .i64 b ∧ LM OF R2 a b ∧ ∃ x : Later w9, wz = x.w) (fun _ _ v91 _ => 8 - (intOf v91).toNat)
                case atStart => exact ⟨0, OF, 0, rfl, by omega, rfl, rfl, ⟨.inl rfl, .inl rfl⟩, ⟨w9, Below.refl _ _⟩, rfl⟩
                case round =>
                  obtain ⟨j, a, b, rfl, hj, rfl, rfl, hlm, x, rfl⟩ := hrel
                  have HLM := Lib.hid hlm
                  obtain ⟨ha0, ha1, hb0, hb1⟩ := hlm.range HF9.out
                  by_cases hj8 : j < 8
                  · have hjd : decide ((j : Int) < 8) = true := by simp; omega
                    clear hlm
                    rcases hasV_form (hasOf R2 j) with ⟨⟨⟨tn, ti, th⟩, tk⟩, ht, hv⟩ | ⟨ht, hv⟩
                    · have HH := Lib.hid ((qs_has (HC9.out.later x).qs j).cast hv)
                      have HT := Lib.hid (hasOf_mem ht).1
                      dsimp only at HH
                      obtain ⟨T, hT⟩ : ∃ T : Int, (tk : Int) = T := ⟨_, rfl⟩
                      have HTk := Lib.hid hT
                      rw [hT] at HH
                      clear ht hv hT
                      have HL1 : Hid (LM OF R2 (if a ≤ T then a else T) (if b < T then T else b)) := Lib.hid (by
                        obtain ⟨h1, h2⟩ := HLM.out
                        refine ⟨?_, ?_⟩
                        · split
                          · exact h1
                          · exact .inr ⟨_, HT.out, HTk.out.symm⟩
                        · split
                          · exact .inr ⟨_, HT.out, HTk.out.symm⟩
                          · exact h2)
                      by_cases q1 : a ≤ T <;> by_cases q2 : b < T
                      all_goals
                        first | rw [if_pos q1] at HL1 | rw [if_neg q1] at HL1
                        first | rw [if_pos q2] at HL1 | rw [if_neg q2] at HL1
                        go_wp2_with fail
                        refine Gives.on HH.out ?_
                        intro x2
                        go_wp2_with fail
                        go_roundw
                        case rel => exact ⟨j + 1, _, _, by go_num, by omega, rfl, rfl, HL1.out, Later.ex (by repeat (first | exact ext_refl _ | refine ext_later ?_ _ | refine ext_alloc ?_ _ | refine ext_drew ?_ | refine ext_drewN ?_ _))⟩
                        case measure => simp [intOf]; omega
                    · have HH := Lib.hid ((qs_has (HC9.out.later x).qs j).cast hv)
                      clear ht hv
                      go_wp2_with fail
                      refine Gives.on HH.out ?_
                      intro x2
                      go_wp2_with fail
                      go_roundw
                      case rel => exact ⟨j + 1, a, b, by go_num, by omega, rfl, rfl, HLM.out, Later.ex (by repeat (first | exact ext_refl _ | refine ext_later ?_ _ | refine ext_alloc ?_ _ | refine ext_drew ?_ | refine ext_drewN ?_ _))⟩
                      case measure => simp [intOf]; omega
                  · obtain rfl : j = 8 := by omega
                    have hev := hlm.even HF9.out HI9.out.even
                    have gev : decide (a + 1 < b) = false := by simp; omega
                    clear hlm hev
                    go_wp2_with fail
                    go_roundw
                    case rel => exact ⟨k + 1, R2, by go_num, by omega, HC9.out.later x, HI9.out⟩
                    case measure => simp [intOf]; omega
        · obtain rfl : k = OF * 8 + 1 := by omega
          have hnil := HI.out.done HC.out.qs.fine (by omega)
          subst hnil
          have HC2 := Lib.hid (HC.out.cast (g := fun j => here R j * OF) fun j hj => by simp [toldOf, hasOf])
          have HObj := Lib.hid HC2.out.obj
          have hlt := HC2.out.lt
          have HLen := Lib.hid (qs_len HC.out.qs)
          simp only [List.length_nil] at HLen
          clear HC HI
          go_wp2_with (refine wpList_load_row rfl _ _ rfl tb rfl _ _ _ _ HObj.out Try.underlying48 (by kernel_rfl) (by kernel_rfl) ?_)
          obtain ⟨w9, hw9⟩ : ∃ W, W = wr := ⟨_, rfl⟩
          subst hw9
          obtain ⟨tab, htab⟩ : ∃ t, tab8 (fun j => here R j * OF) = t := ⟨_, rfl⟩
          have HIx : Hid (∀ (j : Nat) W, j < 8 → (Instr.index 48 (.agg tab) (.int .i64 j)).run Try.prog W = .ok (.int .i64 (here R j * OF)) W) := Lib.hid fun j W hj => by rw [← htab]; exact index_tab8 _ j hj W
          rw [htab]
          have HB := Lib.hid HF0.out.len
          go_loopw [21, 115] (fun v21 v115 wz => ∃ (j : Nat) (sm : Int), v115 = .int .i64 j ∧ j ≤ 8 ∧ v21 = .int .i64 sm ∧ sm = (sumTo R j : Int) * OF ∧ wz = w9) (fun _ v115 _ => 8 - (intOf v115).toNat)
          case atStart => exact ⟨0, 0, rfl, by omega, rfl, by rw [sumTo_zero HF0.out]; simp, rfl⟩
          case round =>
            obtain ⟨j, sm, rfl, hj, rfl, hsm, rfl⟩ := hrel
            have HSm := Lib.hid hsm
            have hs1 : 0 ≤ sm ∧ sm ≤ 160 := by
              have h1 := sumTo_le R j
              have h2 := HB.out
              have h3 : sumTo R j * OF ≤ 8 * 20 := Nat.mul_le_mul (by omega) hOF2
              rw [hsm]
              constructor
              · exact_mod_cast Nat.zero_le _
              · exact_mod_cast h3
            obtain ⟨hs1, hs2⟩ := hs1
            clear hsm
            by_cases hj8 : j < 8
            · have hjd : decide ((j : Int) < 8) = true := by simp; omega
              have hix := fun W => HIx.out j W hj8
              have hstep := sumTo_step HF0.out.once j
              rcases here_two R j with h | h
              · rw [h] at hix hstep
                have HSt := Lib.hid hstep
                simp only [Int.zero_mul] at hix
                clear hstep h
                go_wp2_with fail
                go_roundw
                case rel => exact ⟨j + 1, sm, by go_num, by omega, by go_num, by rw [HSm.out, HSt.out]; simp, by trivial⟩
                case measure => simp [intOf]; omega
              · rw [h] at hix hstep
                have HSt := Lib.hid hstep
                simp only [Int.one_mul] at hix
                clear hstep h
                have g1 : ((OF : Int) != 0) = true := by simp; omega
                go_wp2_with fail
                go_roundw
                case rel => exact ⟨j + 1, sm + OF, by go_num, by omega, by go_num, by rw [HSm.out, HSt.out, Int.add_mul]; simp, by trivial⟩
                case measure => simp [intOf]; omega
            · obtain rfl : j = 8 := by omega
              have hall := HSm.out
              rw [sumTo_eight HF0.out, HRL.out] at hall
              have hm1 : (RL : Int) * (OF : Int) = sm := hall.symm
              clear hall
              go_wp2_with fail
              refine Gives.mono' HLen.out ?_
              intro x2
              go_wp2_with fail
              refine Gives.on (HA.out _) ?_
              intro x3
              go_wp2_with fail
              go_ret
              exact ⟨rfl, Later.ex (below_later HC2.out.qs.below HC2.out.qs.below.size x3)⟩
end Go.Proofs.Ytlcmehighgmoeaa
