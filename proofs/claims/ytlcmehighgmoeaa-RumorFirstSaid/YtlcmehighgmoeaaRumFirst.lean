/- RumorFirst's walk. -/
import Derived.Test.YtlcmehighgmoeaaRumCnt
namespace Go.Proofs.Ytlcmehighgmoeaa
open Go Go.RowKit

set_option maxHeartbeats 4000000 in
set_option maxRecDepth 100000 in
theorem firstLaw_any (v : Value) (l : List Cl) (n : Int) (w : World) (hl : ListAt w v l) (hm : l.length * 24 ≤ 140737488351232) (_ : (Lit.int .i64 n).wf = true) : Gives Try.prog 7 #[v, .int .i64 n] w (.bool true) := by
  unfold Gives
  obtain ⟨p, cap, rfl, hcell⟩ := hl.form
  have HL := Lib.hid hcell
  clear hcell hl
  have HA := Lib.hid awakeR_any
  have HN := Lib.hid (qs_new w [] 5 5 (by decide) w (ext_refl w) (fun b hb => by simp at hb))
  have HPut : Hid (∀ R W c, QS w [] w.heap.size 5 R W → Calls Try.prog 14 #[.pointer (some ⟨w.heap.size, 0, none⟩), Cl.val c] W fun e W' => ∃ b : Bool, e = .returned (.bool b) ∧ Hid (∃ R', QS w [] w.heap.size 5 R' W')) := Lib.hid fun R W c h => (qs_put h c).mono fun e W' ⟨R', he, _, hq, _⟩ => ⟨_, he, Lib.hid ⟨R', hq⟩⟩
  go_enter Try.func7, Try.ntmps7
  go_wp2_with fail
  refine HN.out.mono ?_
  rintro e w1 ⟨rfl, hq1, _⟩
  have HS1 := Lib.hid hq1
  clear hq1 HN
  go_wp2_with fail
  go_loopw [20] (fun v20 wr => ∃ (k : Nat) (R : List Td), v20 = .int .i64 k ∧ k ≤ l.length ∧ QS w [] w.heap.size 5 R wr) (fun v20 _ => l.length - (intOf v20).toNat)
  case atStart => exact ⟨0, [], rfl, by omega, HS1.out⟩
  case round =>
    clear HS1
    obtain ⟨k, R, rfl, hk, hs⟩ := hrel
    have HS := Lib.hid hs
    clear hs
    by_cases hkl : k < l.length
    · obtain ⟨⟨m, i, s⟩, hkc⟩ : ∃ c, l[k]? = some c := ⟨_, List.getElem?_eq_getElem hkl⟩
      rcases HL.out with h0 | ⟨b, o, rfl, hlt, hc⟩
      · rw [h0] at hkl; simp at hkl
      obtain ⟨h0, h1, h2⟩ := hc k _ hkc
      have hB := HS.out.below
      have hc0 : wr.cell? ⟨b, o + k * 3, none⟩ = some (.int .i64 m) := (hB.cell (p := ⟨b, _, none⟩) hlt).trans h0
      have hc1 : wr.cell? ⟨b, o + k * 3 + 1, none⟩ = some (.int .i64 i) := (hB.cell (p := ⟨b, _, none⟩) hlt).trans h1
      have hc2 : wr.cell? ⟨b, o + k * 3 + 2, none⟩ = some (.int .i64 s) := (hB.cell (p := ⟨b, _, none⟩) hlt).trans h2
      have HX := Lib.hid (HS.out.later ⟨wr.alloc (.cells #[.int .i64 m, .int .i64 i, .int .i64 s] 28), ext_alloc (ext_refl _) _⟩)
      dsimp only at HX
      clear h0 h1 h2 hc hkc hB
      have hkd : decide ((k : Int) < (l.length : Int)) = true := by simp; omega
      by_cases h50 : k < 50
      · have g50 : decide ((k : Int) < 50) = true := by simp; omega
        have HP := Lib.hid (HPut.out _ _ ⟨m, i, s⟩ HX.out)
        unfold Cl.val at HP
        dsimp only at HP
        go_wp2_with fail
        refine HP.out.mono ?_
        rintro e w3 ⟨bb, rfl, HE⟩
        go_wp2_with fail
        go_roundw
        case rel =>
          obtain ⟨R', hq⟩ := HE.out
          exact ⟨k + 1, R', by go_num, by omega, hq⟩
        case measure => simp [intOf]; omega
      · have g50 : decide ((k : Int) < 50) = false := by simp; omega
        go_wp2_with fail
        go_roundw
        case rel => exact ⟨k + 1, R, by go_num, by omega, HX.out⟩
        case measure => simp [intOf]; omega
    · obtain rfl : k = l.length := by omega
      clear HPut HL hkl hk
      go_wp2_with fail
      go_loopw [31] (fun v31 wr => ∃ (k : Nat) (R : List Td), v31 = .int .i64 k ∧ k ≤ 6 ∧ QS w [] w.heap.size 5 R wr) (fun v31 _ => 6 - (intOf v31).toNat)
      case atStart => exact ⟨0, R, rfl, by omega, HS.out⟩
      case round =>
        clear HS
        obtain ⟨k, R, rfl, hk, hs⟩ := hrel
        have HS := Lib.hid hs
        clear hs
        by_cases hk6 : k < 6
        · have hkd : decide ((k : Int) < 6) = true := by simp; omega
          have HC0 := Lib.hid (Cnt.start HS.out)
          go_upto_region 11 with fail
          obtain ⟨W1, hW1⟩ : ∃ W, wr.alloc (.cells #[.int .i64 0, .int .i64 0, .int .i64 0, .int .i64 0, .int .i64 0, .int .i64 0, .int .i64 0, .int .i64 0] 48) = W := ⟨_, rfl⟩
          rw [hW1] at HC0 ⊢
          obtain ⟨cb, hcb⟩ : ∃ cb, wr.heap.size = cb := ⟨_, rfl⟩
          rw [hcb] at HC0 ⊢
          clear hW1 hcb HS
          go_wp2_with fail
          go_loopw [33] (fun v33 wz => ∃ (j : Nat) (f : Nat → Int), v33 = .int .i64 j ∧ j ≤ 8 ∧ Cnt w cb w.heap.size 5 R f wz ∧ ∀ i, i < j → f i = cntOf R i) (fun v33 _ => 8 - (intOf v33).toNat)
          case atStart => exact ⟨0, _, rfl, by omega, HC0.out, fun i hi => by omega⟩
          case round =>
            clear HC0
            obtain ⟨j, f, rfl, hj, hc, hf⟩ := hrel
            have HC := Lib.hid hc
            have HF := Lib.hid hf
            clear hc hf
            by_cases hj8 : j < 8
            · have hjd : decide ((j : Int) < 8) = true := by simp; omega
              have z0 := HC.out.cell j hj8
              have z1 := HC.out.fz j
              have z2 := HC.out.lt
              have HC2 := Lib.hid (HC.out.set j hj8 (-1))
              rcases hasV_form (hasOf R j) with ⟨⟨⟨tn, ti, th⟩, tk⟩, ht, hv⟩ | ⟨ht, hv⟩
              · have hcnt : cntOf R j = tk := by unfold cntOf; rw [ht]
                have HH := Lib.hid ((qs_has HC2.out.qs j).cast hv)
                have HCnt := Lib.hid hcnt
                dsimp only at HH
                obtain ⟨T, hT⟩ : ∃ T : Int, (tk : Int) = T := ⟨_, rfl⟩
                rw [hT] at HH HCnt
                clear ht hv hcnt hT
                go_upto_region 15 with fail
                obtain ⟨W2, hW2⟩ : ∃ W, wr.setCell ⟨cb, j, none⟩ (.int .i64 (-1)) = W := ⟨_, rfl⟩
                rw [hW2] at HC2 HH ⊢
                clear hW2 z0 z1 z2
                go_wp2_with fail
                refine Gives.mono' HH.out ?_
                intro x2
                have HC3 := Lib.hid ((HC2.out.later x2).later ⟨x2.w.alloc (.cells #[.int .i64 tn, .int .i64 ti, .int .i64 th] 28), ext_alloc (ext_refl _) _⟩)
                dsimp only at HC3
                go_upto_region 16 with fail
                obtain ⟨W3, hW3⟩ : ∃ W, x2.w.alloc (.cells #[.int .i64 tn, .int .i64 ti, .int .i64 th] 28) = W := ⟨_, rfl⟩
                rw [hW3] at HC3 ⊢
                clear hW3 HH
                have z0 := HC3.out.cell j hj8
                have z1 := HC3.out.fz j
                have z2 := HC3.out.lt
                go_wp2_with fail
                go_roundw
                case rel => exact ⟨j + 1, _, by go_num, by omega, HC3.out.set j hj8 T, fun i hi => by
                  by_cases e : i = j
                  · subst e; simp [HCnt.out]
                  · simp only [if_neg e]; exact HF.out i (by omega)⟩
                case measure => simp [intOf]; omega
              · have hcnt : cntOf R j = -1 := by unfold cntOf; rw [ht]
                have HH := Lib.hid ((qs_has HC2.out.qs j).cast hv)
                have HCnt := Lib.hid hcnt
                clear ht hv hcnt
                go_upto_region 15 with fail
                obtain ⟨W2, hW2⟩ : ∃ W, wr.setCell ⟨cb, j, none⟩ (.int .i64 (-1)) = W := ⟨_, rfl⟩
                rw [hW2] at HC2 HH ⊢
                clear hW2 z0 z1 z2
                go_wp2_with fail
                refine Gives.mono' HH.out ?_
                intro x2
                have HC3 := Lib.hid ((HC2.out.later x2).later ⟨x2.w.alloc (.cells #[.int .i64 0, .int .i64 0, .int .i64 0] 28), ext_alloc (ext_refl _) _⟩)
                dsimp only at HC3
                go_wp2_with fail
                go_roundw
                case rel => exact ⟨j + 1, _, by go_num, by omega, HC3.out, fun i hi => by
                  by_cases e : i = j
                  · subst e; simp [HCnt.out]
                  · simp only [if_neg e]; exact HF.out i (by omega)⟩
                case measure => simp [intOf]; omega
            · obtain rfl : j = 8 := by omega
              have HC4 := Lib.hid (HC.out.cast (g := fun j => cntOf R j) fun i hi => HF.out i hi)
              have HLen := Lib.hid (qs_len HC.out.qs)
              have HTk : Hid (∀ W, Cnt w cb w.heap.size 5 R (fun j => cntOf R j) W → Calls Try.prog 12 #[.pointer (some ⟨w.heap.size, 0, none⟩), .int .i64 n] W fun e W' => ∃ (O : List Td) (pu : Option Addr) (cu : Nat), e = .returned (.slice pu O.length cu) ∧ (O.length : Int) = min (max n 0) R.length ∧ Hid ((∃ rem, Picked R O rem) ∧ ∃ R', Cnt w cb w.heap.size 5 R' (fun j => cntOf R j) W' ∧ (0 < O.length → ∃ g, pu = some ⟨g, 0, none⟩ ∧ g < W'.heap.size ∧ ∀ k t, O[k]? = some t → W'.cell? ⟨g, k * 3, none⟩ = some (.int .i64 t.c.n) ∧ W'.cell? ⟨g, k * 3 + 1, none⟩ = some (.int .i64 t.c.i) ∧ W'.cell? ⟨g, k * 3 + 2, none⟩ = some (.int .i64 t.c.h)))) := Lib.hid fun W h => (qs_take h.qs n).mono fun e W' ⟨u, O, rem, R', he, hp, hc, hrow, _, hq, hk⟩ => by
                obtain ⟨pu, cu, rfl⟩ := ownsRow_form hrow
                refine ⟨O, pu, cu, he, hc, Lib.hid ⟨⟨rem, hp⟩, R', h.mk' hq hk, fun hO => ?_⟩⟩
                obtain ⟨g, cap', hv, _, hg, hcell⟩ := listAt_cells (l := O.map (·.c)) (by simpa using hrow) (by simpa using hO)
                refine ⟨g, (Value.slice.inj hv).1, hg, fun k t hk => ?_⟩
                exact hcell k t.c (by simp [hk])
              have HOnce := Lib.hid HC.out.qs.fine.once
              have HR8 := Lib.hid HC.out.qs.fine.len
              have HNode := Lib.hid (fun (t : Td) ht => HC.out.qs.fine.node (t := t) ht)
              clear HC HF hj8
              go_wp2_with fail
              refine Gives.mono' HLen.out ?_
              intro x5
              go_wp2_with fail
              refine (HTk.out _ (HC4.out.later x5)).mono ?_
              rintro e w6 ⟨O, pu, cu, rfl, hlen, HE⟩
              clear HTk HC4 HLen
              obtain ⟨RL, hRL⟩ : ∃ r : Nat, R.length = r := ⟨_, rfl⟩
              rw [hRL] at hlen ⊢
              clear hRL
              rcases (by omega : (O.length = 0 ∧ n ≤ 0) ∨ (O.length = 0 ∧ RL = 0 ∧ 0 < n) ∨ (0 < n ∧ n ≤ (RL : Int) ∧ (O.length : Int) = n) ∨ (0 < O.length ∧ (RL : Int) < n ∧ RL = O.length)) with ⟨h30, h31⟩ | ⟨h30, rfl, h31⟩ | ⟨h30, h31, rfl⟩ | ⟨h30, h31, rfl⟩
              · clear hlen
                go_upto_region 23 with fail
                clear h30 h31
                go_wp2_with fail
                go_loopw [64] (fun v64 wz => v64 = .int .i64 0 ∧ wz = w6) (fun v64 _ => 0)
                case atStart => exact ⟨rfl, rfl⟩
                case round =>
                  obtain ⟨rfl, rfl⟩ := hrel
                  go_wp2_with fail
                  go_roundw
                  case rel =>
                    obtain ⟨_, R', hR, _⟩ := HE.out
                    exact ⟨k + 1, R', by go_num, by omega, hR.qs.narrower (by simp)⟩
                  case measure => simp [intOf]; omega
              · clear hlen
                go_upto_region 23 with fail
                clear h30 h31
                go_wp2_with fail
                go_loopw [64] (fun v64 wz => v64 = .int .i64 0 ∧ wz = w6) (fun v64 _ => 0)
                case atStart => exact ⟨rfl, rfl⟩
                case round =>
                  obtain ⟨rfl, rfl⟩ := hrel
                  go_wp2_with fail
                  go_roundw
                  case rel =>
                    obtain ⟨_, R', hR, _⟩ := HE.out
                    exact ⟨k + 1, R', by go_num, by omega, hR.qs.narrower (by simp)⟩
                  case measure => simp [intOf]; omega
              · clear hlen
                go_upto_region 23 with fail
                go_wp2_with fail
                clear h30 h31
                go_loopw [64] (fun v64 wz => ∃ i : Nat, v64 = .int .i64 i ∧ i ≤ O.length ∧ ∃ x : Later w6, wz = x.w) (fun v64 _ => O.length - (intOf v64).toNat)
                case atStart => exact ⟨0, rfl, by omega, ⟨w6, Below.refl _ _⟩, rfl⟩
                case round =>
                  obtain ⟨i, rfl, hi, x, rfl⟩ := hrel
                  by_cases hio : i < O.length
                  · obtain ⟨⟨rem, hpick⟩, R', hR, hrow⟩ := HE.out
                    obtain ⟨g, rfl, hg, hcell⟩ := hrow (by omega)
                    obtain ⟨t, ht⟩ : ∃ t, O[i]? = some t := ⟨_, List.getElem?_eq_getElem hio⟩
                    have htR : t ∈ R := hpick.perm.subset (List.mem_append_left _ (List.mem_of_getElem? ht))
                    have hnode := HNode.out t htR
                    obtain ⟨m, hm'⟩ : ∃ m : Nat, t.c.n = m := ⟨t.c.n.toNat, by omega⟩
                    have hm8 : m < 8 := by omega
                    obtain ⟨a0, a1, a2⟩ := hcell i t ht
                    have c0 := hR.cell m hm8
                    rw [cntOf_mem HOnce.out htR hm'] at c0
                    rw [hm'] at a0
                    have hxl := x.below.size
                    have hcl := hR.lt
                    obtain ⟨T, hT⟩ : ∃ T : Int, (t.n : Int) = T := ⟨_, rfl⟩
                    rw [hT] at c0
                    have hT0 : 0 ≤ T := by omega
                    have d0 : x.w.cell? ⟨cb, m, none⟩ = some (.int .i64 T) := (x.below.cell (p := ⟨cb, _, none⟩) hcl).trans c0
                    have d1 : x.w.cell? ⟨g, i * 3, none⟩ = some (.int .i64 m) := (x.below.cell (p := ⟨g, _, none⟩) hg).trans a0
                    have d2 : x.w.cell? ⟨g, i * 3 + 1, none⟩ = some (.int .i64 t.c.i) := (x.below.cell (p := ⟨g, _, none⟩) hg).trans a1
                    have d3 : x.w.cell? ⟨g, i * 3 + 2, none⟩ = some (.int .i64 t.c.h) := (x.below.cell (p := ⟨g, _, none⟩) hg).trans a2
                    obtain ⟨I, hI⟩ : ∃ I, t.c.i = I := ⟨_, rfl⟩
                    obtain ⟨H, hH⟩ : ∃ I, t.c.h = I := ⟨_, rfl⟩
                    rw [hI] at d2
                    rw [hH] at d3
                    have gT : decide (T < 0) = false := by simp; omega
                    have gio : decide ((i : Int) < (O.length : Int)) = true := by simp; omega
                    have hgx : g < x.w.heap.size := by omega
                    have hcx : cb < x.w.heap.size := by omega
                    cases i with
                    | zero =>
                      clear hR hrow hcell hpick htR hnode hI hH hT a0 a1 a2 c0 hm' ht
                      simp only [Nat.zero_mul, Nat.zero_add] at d1 d2 d3
                      go_upto_region 28 with fail
                      go_quiet (fail)
                      go_wp2_with fail
                      go_roundw
                      case rel => exact ⟨1, by go_num, by omega, Later.ex (by repeat (first | exact x.below | refine ext_later ?_ _ | refine ext_alloc ?_ _ | refine ext_drew ?_ | refine ext_drewN ?_ _))⟩
                      case measure => simp [intOf]; omega
                    | succ ip =>
                      have hip : ip < 1000 := by
                        have h1 := hpick.perm.length_eq
                        have h2 := HR8.out
                        rw [List.length_append] at h1
                        omega
                      have hwr : IntKind.i64.wrap (ip : Int) = (ip : Int) := by
                        unfold IntKind.wrap
                        simp [IntKind.signed, IntKind.bits]
                        omega
                      obtain ⟨u, hu⟩ : ∃ u, O[ip]? = some u := ⟨_, List.getElem?_eq_getElem (by omega)⟩
                      have huR : u ∈ R := hpick.perm.subset (List.mem_append_left _ (List.mem_of_getElem? hu))
                      have hnode' := HNode.out u huR
                      obtain ⟨mu, hmu⟩ : ∃ m : Nat, u.c.n = m := ⟨u.c.n.toNat, by omega⟩
                      have hmu8 : mu < 8 := by omega
                      obtain ⟨b0, _, _⟩ := hcell ip u hu
                      have c1 := hR.cell mu hmu8
                      rw [cntOf_mem HOnce.out huR hmu] at c1
                      rw [hmu] at b0
                      obtain ⟨U, hU⟩ : ∃ T : Int, (u.n : Int) = T := ⟨_, rfl⟩
                      rw [hU] at c1
                      have e0 : x.w.cell? ⟨cb, mu, none⟩ = some (.int .i64 U) := (x.below.cell (p := ⟨cb, _, none⟩) hcl).trans c1
                      have e1 : x.w.cell? ⟨g, ip * 3, none⟩ = some (.int .i64 mu) := (x.below.cell (p := ⟨g, _, none⟩) hg).trans b0
                      have hlt : u.lt t := by
                        have hs := List.pairwise_iff_getElem.1 hpick.sorted ip (ip + 1) (by omega) hio (by omega)
                        rw [(List.getElem?_eq_some_iff.1 hu).2, (List.getElem?_eq_some_iff.1 ht).2] at hs
                        exact hs
                      have hlt' : U < T ∨ (U = T ∧ mu < m) := by
                        unfold Td.lt at hlt
                        omega
                      clear hR hrow hcell hpick htR hnode hI hH hT a0 a1 a2 c0 hm' ht hu huR hnode' b0 c1 hmu hU hlt
                      have gp : decide ((0 : Int) < (ip : Int) + 1) = true := by simp <;> omega
                      rcases hlt' with h | ⟨h, h'⟩
                      · have g1 : decide (T < U) = false := by simp; omega
                        have g2 : (T == U) = false := by simp; omega
                        clear h
                        go_upto_region 28 with fail
                        go_quiet (fail)
                        go_wp2_with fail
                        go_roundw
                        case rel => exact ⟨ip + 1 + 1, by go_num, by omega, Later.ex (by repeat (first | exact x.below | refine ext_later ?_ _ | refine ext_alloc ?_ _ | refine ext_drew ?_ | refine ext_drewN ?_ _))⟩
                        case measure => simp [intOf]; omega
                      · have g1 : decide (T < U) = false := by simp; omega
                        have g2 : (T == U) = true := by simp; omega
                        have g3 : decide (m ≤ mu) = false := by simp; omega
                        clear h h'
                        go_upto_region 28 with fail
                        go_quiet (fail)
                        go_wp2_with fail
                        go_roundw
                        case rel => exact ⟨ip + 1 + 1, by go_num, by omega, Later.ex (by repeat (first | exact x.below | refine ext_later ?_ _ | refine ext_alloc ?_ _ | refine ext_drew ?_ | refine ext_drewN ?_ _))⟩
                        case measure => simp [intOf]; omega
                  · obtain rfl : i = O.length := by omega
                    go_wp2_with fail
                    go_roundw
                    case rel =>
                      obtain ⟨_, R', hR, _⟩ := HE.out
                      exact ⟨k + 1, R', by go_num, by omega, (hR.later x).qs.narrower (by simp)⟩
                    case measure => simp [intOf]; omega
              · clear hlen
                go_upto_region 23 with fail
                go_wp2_with fail
                clear h30 h31
                go_loopw [64] (fun v64 wz => ∃ i : Nat, v64 = .int .i64 i ∧ i ≤ O.length ∧ ∃ x : Later w6, wz = x.w) (fun v64 _ => O.length - (intOf v64).toNat)
                case atStart => exact ⟨0, rfl, by omega, ⟨w6, Below.refl _ _⟩, rfl⟩
                case round =>
                  obtain ⟨i, rfl, hi, x, rfl⟩ := hrel
                  by_cases hio : i < O.length
                  · obtain ⟨⟨rem, hpick⟩, R', hR, hrow⟩ := HE.out
                    obtain ⟨g, rfl, hg, hcell⟩ := hrow (by omega)
                    obtain ⟨t, ht⟩ : ∃ t, O[i]? = some t := ⟨_, List.getElem?_eq_getElem hio⟩
                    have htR : t ∈ R := hpick.perm.subset (List.mem_append_left _ (List.mem_of_getElem? ht))
                    have hnode := HNode.out t htR
                    obtain ⟨m, hm'⟩ : ∃ m : Nat, t.c.n = m := ⟨t.c.n.toNat, by omega⟩
                    have hm8 : m < 8 := by omega
                    obtain ⟨a0, a1, a2⟩ := hcell i t ht
                    have c0 := hR.cell m hm8
                    rw [cntOf_mem HOnce.out htR hm'] at c0
                    rw [hm'] at a0
                    have hxl := x.below.size
                    have hcl := hR.lt
                    obtain ⟨T, hT⟩ : ∃ T : Int, (t.n : Int) = T := ⟨_, rfl⟩
                    rw [hT] at c0
                    have hT0 : 0 ≤ T := by omega
                    have d0 : x.w.cell? ⟨cb, m, none⟩ = some (.int .i64 T) := (x.below.cell (p := ⟨cb, _, none⟩) hcl).trans c0
                    have d1 : x.w.cell? ⟨g, i * 3, none⟩ = some (.int .i64 m) := (x.below.cell (p := ⟨g, _, none⟩) hg).trans a0
                    have d2 : x.w.cell? ⟨g, i * 3 + 1, none⟩ = some (.int .i64 t.c.i) := (x.below.cell (p := ⟨g, _, none⟩) hg).trans a1
                    have d3 : x.w.cell? ⟨g, i * 3 + 2, none⟩ = some (.int .i64 t.c.h) := (x.below.cell (p := ⟨g, _, none⟩) hg).trans a2
                    obtain ⟨I, hI⟩ : ∃ I, t.c.i = I := ⟨_, rfl⟩
                    obtain ⟨H, hH⟩ : ∃ I, t.c.h = I := ⟨_, rfl⟩
                    rw [hI] at d2
                    rw [hH] at d3
                    have gT : decide (T < 0) = false := by simp; omega
                    have gio : decide ((i : Int) < (O.length : Int)) = true := by simp; omega
                    have hgx : g < x.w.heap.size := by omega
                    have hcx : cb < x.w.heap.size := by omega
                    cases i with
                    | zero =>
                      clear hR hrow hcell hpick htR hnode hI hH hT a0 a1 a2 c0 hm' ht
                      simp only [Nat.zero_mul, Nat.zero_add] at d1 d2 d3
                      go_upto_region 28 with fail
                      go_quiet (fail)
                      go_wp2_with fail
                      go_roundw
                      case rel => exact ⟨1, by go_num, by omega, Later.ex (by repeat (first | exact x.below | refine ext_later ?_ _ | refine ext_alloc ?_ _ | refine ext_drew ?_ | refine ext_drewN ?_ _))⟩
                      case measure => simp [intOf]; omega
                    | succ ip =>
                      have hip : ip < 1000 := by
                        have h1 := hpick.perm.length_eq
                        have h2 := HR8.out
                        rw [List.length_append] at h1
                        omega
                      have hwr : IntKind.i64.wrap (ip : Int) = (ip : Int) := by
                        unfold IntKind.wrap
                        simp [IntKind.signed, IntKind.bits]
                        omega
                      obtain ⟨u, hu⟩ : ∃ u, O[ip]? = some u := ⟨_, List.getElem?_eq_getElem (by omega)⟩
                      have huR : u ∈ R := hpick.perm.subset (List.mem_append_left _ (List.mem_of_getElem? hu))
                      have hnode' := HNode.out u huR
                      obtain ⟨mu, hmu⟩ : ∃ m : Nat, u.c.n = m := ⟨u.c.n.toNat, by omega⟩
                      have hmu8 : mu < 8 := by omega
                      obtain ⟨b0, _, _⟩ := hcell ip u hu
                      have c1 := hR.cell mu hmu8
                      rw [cntOf_mem HOnce.out huR hmu] at c1
                      rw [hmu] at b0
                      obtain ⟨U, hU⟩ : ∃ T : Int, (u.n : Int) = T := ⟨_, rfl⟩
                      rw [hU] at c1
                      have e0 : x.w.cell? ⟨cb, mu, none⟩ = some (.int .i64 U) := (x.below.cell (p := ⟨cb, _, none⟩) hcl).trans c1
                      have e1 : x.w.cell? ⟨g, ip * 3, none⟩ = some (.int .i64 mu) := (x.below.cell (p := ⟨g, _, none⟩) hg).trans b0
                      have hlt : u.lt t := by
                        have hs := List.pairwise_iff_getElem.1 hpick.sorted ip (ip + 1) (by omega) hio (by omega)
                        rw [(List.getElem?_eq_some_iff.1 hu).2, (List.getElem?_eq_some_iff.1 ht).2] at hs
                        exact hs
                      have hlt' : U < T ∨ (U = T ∧ mu < m) := by
                        unfold Td.lt at hlt
                        omega
                      clear hR hrow hcell hpick htR hnode hI hH hT a0 a1 a2 c0 hm' ht hu huR hnode' b0 c1 hmu hU hlt
                      have gp : decide ((0 : Int) < (ip : Int) + 1) = true := by simp <;> omega
                      rcases hlt' with h | ⟨h, h'⟩
                      · have g1 : decide (T < U) = false := by simp; omega
                        have g2 : (T == U) = false := by simp; omega
                        clear h
                        go_upto_region 28 with fail
                        go_quiet (fail)
                        go_wp2_with fail
                        go_roundw
                        case rel => exact ⟨ip + 1 + 1, by go_num, by omega, Later.ex (by repeat (first | exact x.below | refine ext_later ?_ _ | refine ext_alloc ?_ _ | refine ext_drew ?_ | refine ext_drewN ?_ _))⟩
                        case measure => simp [intOf]; omega
                      · have g1 : decide (T < U) = false := by simp; omega
                        have g2 : (T == U) = true := by simp; omega
                        have g3 : decide (m ≤ mu) = false := by simp; omega
                        clear h h'
                        go_upto_region 28 with fail
                        go_quiet (fail)
                        go_wp2_with fail
                        go_roundw
                        case rel => exact ⟨ip + 1 + 1, by go_num, by omega, Later.ex (by repeat (first | exact x.below | refine ext_later ?_ _ | refine ext_alloc ?_ _ | refine ext_drew ?_ | refine ext_drewN ?_ _))⟩
                        case measure => simp [intOf]; omega
                  · obtain rfl : i = O.length := by omega
                    go_wp2_with fail
                    go_roundw
                    case rel =>
                      obtain ⟨_, R', hR, _⟩ := HE.out
                      exact ⟨k + 1, R', by go_num, by omega, (hR.later x).qs.narrower (by simp)⟩
                    case measure => simp [intOf]; omega
        · obtain rfl : k = 6 := by omega
          go_wp2_with fail
          refine Gives.mono' (HA.out _) ?_
          intro x3
          go_wp2_with fail
          go_ret
          exact ⟨rfl, Later.ex (below_later HS.out.below HS.out.below.size x3)⟩
end Go.Proofs.Ytlcmehighgmoeaa
