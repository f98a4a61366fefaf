/- The reference's queue: Take. -/
import Derived.Test.YtlcmehighgmoeaaRefPut
import Derived.Test.YtlcmehighgmoeaaClList
import Derived.BigQuiet
import Derived.Deep.Cut
namespace Go.Proofs.Ytlcmehighgmoeaa
open Go Go.RowKit

theorem ownsRow_weaken {W : World} {b b' : Nat} {e : TypeId} {size : Nat} {v : Value} {k : Nat} {xs : List Value} (h : W.ownsRow b e size v k xs) (hb : b' ≤ b) : W.ownsRow b' e size v k xs := by
  refine ⟨h.1, ?_⟩
  rcases h.2 with h2 | ⟨g, cap, cur, hv, hg, rest⟩
  · exact .inl h2
  · exact .inr ⟨g, cap, cur, hv, Nat.le_trans hb hg, rest⟩
theorem take_done {q often : Nat} {L R : List Td} {w z : World} {F : Nat → Prop} {v : Value} {base : Nat} (h : RefQ q often L w F) (hb : Below w.heap.size w z) (hr : z.ownsRow base 43 4 v R.length (cellsT R)) (hbase : w.heap.size ≤ base) : QEnd q often R F w (z.setCell ⟨q, 1, none⟩ v) := by
  obtain ⟨u, hq, _, hF⟩ := h
  have hlt := (Array.getElem?_eq_some_iff.1 hq).1
  have hz : z.heap[q]? = _ := (hb.block q hlt).trans hq
  refine ⟨fun j => j = q ∨ v.ownBlock = some j, ⟨v, ?_, ownsRow_weaken (ownsRow_setCell_below hr (a := ⟨q, 1, none⟩) (by show q < base; omega) v) (Nat.zero_le _), fun j => Iff.rfl⟩, (Fr.of_below hb).set q 1 _ (.inl ((hF q).2 (.inl rfl))), ?_⟩
  · rw [heap_setCell_same _ _ _ _ _ _ hz]; rfl
  · rintro k (rfl | e)
    · exact .inl ((hF k).2 (.inl rfl))
    · exact .inr (Nat.le_trans hbase (hr.lt k e).1)

set_option maxHeartbeats 800000 in
set_option maxRecDepth 100000 in
theorem take_any (q often : Nat) (L : List Td) (n : Int) (w : World) (F : Nat → Prop) (h : RefQ q often L w F) (hL : L.length ≤ 8) (hN : ∀ t ∈ L, 0 ≤ t.c.n ∧ t.c.n < 8) (hO : Once L) (hT : ∀ t ∈ L, t.n < often) (hoft : often ≤ 1000) :
    Calls Try.prog 13 #[.pointer (some ⟨q, 0, none⟩), .int .i64 n] w fun e w' => ∃ v O tk, e = .returned v ∧ Picked L O (leftOf L tk) ∧ (O.length : Int) = min (max n 0) L.length ∧ w'.ownsRow w.heap.size 28 3 v O.length (cellsOf (O.map (·.c))) ∧ QEnd q often (restOf often tk L) F w w' := by
  obtain ⟨i0, hi, hz0, hz1, hz2⟩ := info_parts infoTold
  obtain ⟨i1, hi1, hy0, hy1, hy2⟩ := info_parts infoClaim
  have HH := Lib.hid h
  obtain ⟨p, cap, hc⟩ := h.cells
  have hlt := hc.lt
  have hh1 := hc.h1
  have HC := Lib.hid hc
  have HO := Lib.hid hO
  have HN := Lib.hid hN
  have HTn := Lib.hid hT
  clear h hc hO hN hT
  go_enter Try.func13, Try.ntmps13
  go_wp2_with fail
  clear hh1
  go_loopw [5, 7, 8, 9, 32] (fun v5 _ _ _ _ wr => ∃ O tk, TakeInv w L n O tk v5 wr) (fun v5 _ _ _ _ _ => L.length - lenOf v5)
  case atStart => exact ⟨[], fun _ => false, takeInv_start w L n _⟩
  case round =>
    obtain ⟨O, tk, hinv⟩ := hrel
    have hlen := hinv.len
    obtain ⟨po, co, rfl⟩ := ownsRow_form hinv.row
    have hB := hinv.below
    have e1 : wr.cell? ⟨q, 1, none⟩ = some (.slice p L.length cap) := (hB.cell (p := ⟨q, _, none⟩) hlt).trans HC.out.h1
    have HI := Lib.hid hinv
    have hql : q < wr.heap.size := Nat.lt_of_lt_of_le hlt hB.size
    have htl := hinv.lt
    clear hinv hB
    by_cases hmore : (O.length : Int) < n ∧ O.length < L.length
    · obtain ⟨m1, m2⟩ := hmore
      have m2' : ((O.length : Int) < (L.length : Int)) := by omega
      go_wp2_with fail
      go_loopw [7, 8, 9, 32] (fun v7 _ _ v32 z => ∃ (k : Nat) (b : Int), k ≤ L.length ∧ v32 = .int .i64 k ∧ v7 = .int .i64 b ∧ BestOf L tk k b ∧ ∃ x : Later wr, z = x.w) (fun _ _ _ v32 _ => L.length - (intOf v32).toNat)
      case atStart => exact ⟨0, -1, by omega, rfl, rfl, BestOf.zero _ _, ⟨wr, Below.refl _ _⟩, rfl⟩
      case round =>
        obtain ⟨k, b, hk, rfl, rfl, hbest, x, rfl⟩ := hrel
        have HBest := Lib.hid hbest
        clear hbest
        by_cases hkl : k < L.length
        · obtain ⟨⟨⟨m, i, s⟩, t⟩, hkc⟩ : ∃ t, L[k]? = some t := ⟨_, List.getElem?_eq_getElem hkl⟩
          have hm := HN.out _ (List.mem_of_getElem? hkc)
          dsimp only at hm
          obtain ⟨m, rfl⟩ : ∃ j : Nat, m = j := ⟨m.toNat, by omega⟩
          have hm8 : m < 8 := by omega
          rcases HC.out.row with h0 | ⟨g, rfl, hg, hgq, _, hcell⟩
          · rw [h0] at hkl; simp at hkl
          have hgw : g < wr.heap.size := Nat.lt_of_lt_of_le hg HI.out.below.size
          obtain ⟨a0, a1, a2, a3⟩ := hcell k _ hkc
          have hB := HI.out.below
          have hc0 : wr.cell? ⟨g, k * 4, none⟩ = some (.int .i64 m) := (hB.cell (p := ⟨g, _, none⟩) hg).trans a0
          have hc1 : wr.cell? ⟨g, k * 4 + 1, none⟩ = some (.int .i64 i) := (hB.cell (p := ⟨g, _, none⟩) hg).trans a1
          have hc2 : wr.cell? ⟨g, k * 4 + 2, none⟩ = some (.int .i64 s) := (hB.cell (p := ⟨g, _, none⟩) hg).trans a2
          obtain ⟨T, hT⟩ : ∃ T : Int, T = (t : Int) := ⟨_, rfl⟩
          have hc3 : wr.cell? ⟨g, k * 4 + 3, none⟩ = some (.int .i64 T) := (hB.cell (p := ⟨g, _, none⟩) hg).trans (by rw [hT]; exact a3)
          have HT := Lib.hid hT
          clear hT
          have htb := HI.out.tbl m hm8
          have HCell := Lib.hid hcell
          clear a0 a1 a2 a3 hcell hB hm
          have HK := Lib.hid hkc
          clear hkc
          cases htk : tk m with
          | true =>
            rw [htk] at htb
            go_wp2_with fail
            go_roundw
            case rel => exact ⟨k + 1, b, by omega, by go_num, rfl, HBest.out.skip HK.out htk, Later.ex (ext_alloc x.below _)⟩
            case measure => simp [intOf]; omega
          | false =>
            rw [htk] at htb
            rcases HBest.out with ⟨rfl, _⟩ | ⟨j, ⟨⟨mu, iu, su⟩, tu⟩, rfl, hj, hu, hun, _⟩
            · go_upto_region 9 with fail
              go_quiet (fail)
              go_wp2_with fail
              go_roundw
              case rel => exact ⟨k + 1, k, by omega, by go_num, rfl, HBest.out.first HK.out htk, Later.ex (ext_drewN (ext_alloc x.below _) _)⟩
              case measure => simp [intOf]; omega
            · have hjl : j < L.length := by omega
              obtain ⟨a0, a1, a2, a3⟩ := HCell.out j _ hu
              have hB := HI.out.below
              have hd0 : wr.cell? ⟨g, j * 4, none⟩ = some (.int .i64 mu) := (hB.cell (p := ⟨g, _, none⟩) hg).trans a0
              obtain ⟨U, hU⟩ : ∃ U : Int, U = (tu : Int) := ⟨_, rfl⟩
              have hd3 : wr.cell? ⟨g, j * 4 + 3, none⟩ = some (.int .i64 U) := (hB.cell (p := ⟨g, _, none⟩) hg).trans (by rw [hU]; exact a3)
              have HU' := Lib.hid hU
              clear hU
              have HU := Lib.hid hu
              clear a0 a1 a2 a3 hB hu hun
              have gj : decide ((j : Int) < 0) = false := by simp
              by_cases q1 : T < U
              · have g1 : decide (T < U) = true := by simpa using q1
                go_upto_region 9 with fail
                go_quiet (fail)
                go_wp2_with fail
                go_roundw
                case rel =>
                  have hlt' : Td.lt ⟨⟨m, i, s⟩, t⟩ ⟨⟨mu, iu, su⟩, tu⟩ := by have := HT.out; have := HU'.out; unfold Td.lt; dsimp only; omega
                  exact ⟨k + 1, k, by omega, by go_num, rfl, HBest.out.better HU.out HK.out htk hlt', Later.ex (ext_drewN (ext_alloc x.below _) _)⟩
                case measure => simp [intOf]; omega
              · have g1 : decide (T < U) = false := by simpa using q1
                by_cases q2 : T = U
                · have g2 : (T == U) = true := by simpa using q2
                  by_cases q3 : (m : Int) < mu
                  · have g3 : decide ((m : Int) < mu) = true := by simpa using q3
                    go_upto_region 9 with fail
                    go_quiet (fail)
                    go_wp2_with fail
                    go_roundw
                    case rel =>
                      have hlt' : Td.lt ⟨⟨m, i, s⟩, t⟩ ⟨⟨mu, iu, su⟩, tu⟩ := by have := HT.out; have := HU'.out; unfold Td.lt; dsimp only; omega
                      exact ⟨k + 1, k, by omega, by go_num, rfl, HBest.out.better HU.out HK.out htk hlt', Later.ex (ext_drewN (ext_alloc x.below _) _)⟩
                    case measure => simp [intOf]; omega
                  · have g3 : decide ((m : Int) < mu) = false := by simpa using q3
                    go_upto_region 9 with fail
                    go_quiet (fail)
                    go_wp2_with fail
                    go_roundw
                    case rel =>
                      have hlt' : ¬ Td.lt ⟨⟨m, i, s⟩, t⟩ ⟨⟨mu, iu, su⟩, tu⟩ := by have := HT.out; have := HU'.out; unfold Td.lt; dsimp only; omega
                      exact ⟨k + 1, j, by omega, by go_num, rfl, HBest.out.stays HU.out HK.out hlt', Later.ex (ext_drewN (ext_alloc x.below _) _)⟩
                    case measure => simp [intOf]; omega
                · have g2 : (T == U) = false := by simpa using q2
                  go_upto_region 9 with fail
                  go_quiet (fail)
                  go_wp2_with fail
                  go_roundw
                  case rel =>
                    have hlt' : ¬ Td.lt ⟨⟨m, i, s⟩, t⟩ ⟨⟨mu, iu, su⟩, tu⟩ := by have := HT.out; have := HU'.out; unfold Td.lt; dsimp only; omega
                    exact ⟨k + 1, j, by omega, by go_num, rfl, HBest.out.stays HU.out HK.out hlt', Later.ex (ext_drewN (ext_alloc x.below _) _)⟩
                  case measure => simp [intOf]; omega
        · obtain rfl : k = L.length := by omega
          obtain ⟨j, ⟨⟨m, i, s⟩, t⟩, rfl, hu, _, hpick⟩ := HBest.out.picks HO.out HI.out.picked m2
          have hm := HN.out _ (List.mem_of_getElem? hu)
          dsimp only at hm
          obtain ⟨m, rfl⟩ : ∃ j : Nat, m = j := ⟨m.toNat, by omega⟩
          have hm8 : m < 8 := by omega
          have hjl := (List.getElem?_eq_some_iff.1 hu).1
          rcases HC.out.row with h0 | ⟨g, rfl, hg, hgq, _, hcell⟩
          · rw [h0] at hjl; simp at hjl
          have hgw : g < wr.heap.size := Nat.lt_of_lt_of_le hg HI.out.below.size
          obtain ⟨a0, a1, a2, _⟩ := hcell j _ hu
          have hB := HI.out.below
          have hB2 : Below w.heap.size w x.w := (HI.out.later x).below
          have hc0 : x.w.cell? ⟨g, j * 4, none⟩ = some (.int .i64 m) := (hB2.cell (p := ⟨g, _, none⟩) hg).trans a0
          have hc1 : x.w.cell? ⟨g, j * 4 + 1, none⟩ = some (.int .i64 i) := (hB2.cell (p := ⟨g, _, none⟩) hg).trans a1
          have hc2 : x.w.cell? ⟨g, j * 4 + 2, none⟩ = some (.int .i64 s) := (hB2.cell (p := ⟨g, _, none⟩) hg).trans a2
          have e2 : x.w.cell? ⟨q, 1, none⟩ = some (.slice (some ⟨g, 0, none⟩) L.length cap) := (hB2.cell (p := ⟨q, _, none⟩) hlt).trans HC.out.h1
          have HI2 := Lib.hid (HI.out.later x)
          have htb := HI2.out.tbl m hm8
          have hfz := HI2.out.fz m
          have htl2 := HI2.out.lt
          have hg2 : g < x.w.heap.size := Nat.lt_of_lt_of_le hg hB2.size
          have hq2 : q < x.w.heap.size := Nat.lt_of_lt_of_le hlt hB2.size
          have hgt : g ≠ w.heap.size := by omega
          have hqt : q ≠ w.heap.size := by omega
          have HP := Lib.hid hpick
          clear hpick hcell a0 a1 a2 hB hB2 hu hm htl e1 HBest HI
          obtain ⟨w2, hw2⟩ : ∃ W, x.w = W := ⟨_, rfl⟩
          rw [hw2] at hc0 hc1 hc2 e2 HI2 htb hfz htl2 hg2 hq2 ⊢
          have hrow := (ownsRow_setCell_below HI2.out.row (a := ⟨w.heap.size, m, none⟩) (Nat.lt_succ_self _) (.bool true)).alloc (.cells #[.int .i64 m, .int .i64 i, .int .i64 s] 28)
          have hcn := cell_three_new (w2.setCell ⟨w.heap.size, m, none⟩ (.bool true)) (.int .i64 m) (.int .i64 i) (.int .i64 s) 28
          rw [show (w2.setCell ⟨w.heap.size, m, none⟩ (.bool true)).heap.size = w2.heap.size from by simp] at hcn
          have HCN := Lib.hid hcn
          have HR := Lib.hid hrow
          clear hcn hrow
          go_upto_region 13 with fail
          obtain ⟨v, hv⟩ : ∃ v, Value.slice po O.length co = v := ⟨_, rfl⟩
          rw [hv] at HI2 HR ⊢
          have HV := Lib.hid hv
          clear hv
          go_wp2_with (at_builtin; refine wpList_append_own _ rfl _ _ 32 rfl (w.heap.size + 1) 28 i1 (.agg #[.int .i64 0, .int .i64 0, .int .i64 0]) 3 24 Try.underlying32 hi1 hy0 hy1 hy2 rfl (by decide) _ _ _ rfl HR.out ⟨w2.heap.size, 0, none⟩ 1 1 [.int .i64 m, .int .i64 i, .int .i64 s] rfl rfl HCN.out (by simp [Value.oneCell']) (by unfold maxLen; omega) (by omega) (by simp; omega) ?_; intro v' w1 hown' hgrow _; have HO1 := Lib.hid hown'; have HG := Lib.hid hgrow; clear hown' hgrow)
          go_roundw
          case rel => exact ⟨_, _, takeInv_step HI2.out rfl hm8 HP.out m1 HO1.out HG.out⟩
          case measure =>
            obtain ⟨p', c', rfl⟩ := ownsRow_form HO1.out
            simp [lenOf]
            omega
    · have hfin : (O.length : Int) = min (max n 0) L.length := by have := HI.out.le; omega
      by_cases m1 : (O.length : Int) < n
      have m2 : ¬ ((O.length : Int) < (L.length : Int)) := by omega
      all_goals
        have HF := Lib.hid hfin
        clear hfin
        go_upto_region 14 with fail
        obtain ⟨vo, hvo⟩ : ∃ v, Value.slice po O.length co = v := ⟨_, rfl⟩
        rw [hvo] at HI ⊢
        have HVo := Lib.hid hvo
        clear hvo
        go_wp2_with fail
        clear e1
        obtain ⟨w1, hw1⟩ : ∃ W, W = wr := ⟨_, rfl⟩
        subst hw1
        go_loopw [10, 12, 113] (fun v10 _ v113 z => ∃ k : Nat, k ≤ L.length ∧ v113 = .int .i64 k ∧ z.ownsRow w1.heap.size 43 4 v10 (restOf often tk (L.take k)).length (cellsT (restOf often tk (L.take k))) ∧ Below w1.heap.size w1 z) (fun _ _ v113 _ => L.length - (intOf v113).toNat)
        case atStart => exact ⟨0, by omega, rfl, World.ownsRow_nil _ _ _ _, Below.refl _ _⟩
        case round =>
          obtain ⟨k, hk, rfl, hrow, hBz⟩ := hrel
          have hB2 : Below w.heap.size w wr := HI.out.below.trans (hBz.mono HI.out.below.size)
          have hw1z := hBz.size
          have hq2 : q < wr.heap.size := Nat.lt_of_lt_of_le hlt hB2.size
          have e0 := (hB2.cell (p := ⟨q, 0, none⟩) hlt).trans HC.out.h0
          have e1 := (hB2.cell (p := ⟨q, 1, none⟩) hlt).trans HC.out.h1
          have ef := (hB2.frozen (p := ⟨q, 1, none⟩) hlt).trans HC.out.f1
          by_cases hkl : k < L.length
          · obtain ⟨⟨⟨m, i, s⟩, t⟩, hkc⟩ : ∃ t, L[k]? = some t := ⟨_, List.getElem?_eq_getElem hkl⟩
            have hm := HN.out _ (List.mem_of_getElem? hkc)
            have htn := HTn.out _ (List.mem_of_getElem? hkc)
            dsimp only at hm htn
            obtain ⟨m, rfl⟩ : ∃ j : Nat, m = j := ⟨m.toNat, by omega⟩
            have hm8 : m < 8 := by omega
            rcases HC.out.row with h0 | ⟨g, rfl, hg, hgq, _, hcell⟩
            · rw [h0] at hkl; simp at hkl
            have hgw : g < wr.heap.size := Nat.lt_of_lt_of_le hg hB2.size
            obtain ⟨a0, a1, a2, a3⟩ := hcell k _ hkc
            have hc0 : wr.cell? ⟨g, k * 4, none⟩ = some (.int .i64 m) := (hB2.cell (p := ⟨g, _, none⟩) hg).trans a0
            have hc1 : wr.cell? ⟨g, k * 4 + 1, none⟩ = some (.int .i64 i) := (hB2.cell (p := ⟨g, _, none⟩) hg).trans a1
            have hc2 : wr.cell? ⟨g, k * 4 + 2, none⟩ = some (.int .i64 s) := (hB2.cell (p := ⟨g, _, none⟩) hg).trans a2
            obtain ⟨T, hT⟩ : ∃ T : Int, T = (t : Int) := ⟨_, rfl⟩
            have hc3 : wr.cell? ⟨g, k * 4 + 3, none⟩ = some (.int .i64 T) := (hB2.cell (p := ⟨g, _, none⟩) hg).trans (by rw [hT]; exact a3)
            have htb := (hBz.cell (p := ⟨w.heap.size, m, none⟩) HI.out.lt).trans (HI.out.tbl m hm8)
            have htl2 : w.heap.size < wr.heap.size := Nat.lt_of_lt_of_le HI.out.lt hw1z
            obtain ⟨OF, hOF⟩ : ∃ X : Int, X = (often : Int) := ⟨_, rfl⟩
            rw [← hOF] at e0
            have hT0 : 0 ≤ T := by omega
            have hT1 : T < 1000 := by omega
            have hRl := restOf_len often tk (L.take k)
            have hRk : (L.take k).length = k := by rw [List.length_take]; omega
            have hto : T < OF := by omega
            have HT := Lib.hid hT
            have HOF := Lib.hid hOF
            have HK := Lib.hid hkc
            have HR := Lib.hid hrow
            have HBz := Lib.hid hBz
            clear hT hOF hkc hm htn hcell a0 a1 a2 a3 hrow hBz hB2
            cases htk : tk m with
            | true =>
              rw [htk] at htb
              by_cases q1 : T + 1 < OF
              · have g1 : decide (T + 1 < OF) = true := by simpa using q1
                go_upto_region 20 with fail
                go_quiet (fail)
                have hA : (((wr.alloc (.cells #[.int .i64 m, .int .i64 i, .int .i64 s, .int .i64 (T + 1)] 43)).drewN nq).alloc (.cells #[.int .i64 m, .int .i64 i, .int .i64 s, .int .i64 (T + 1)] 43)).ownsRow w1.heap.size 43 4 u10 (restOf often tk (L.take k)).length (cellsT (restOf often tk (L.take k))) := World.ownsRow.alloc (w := (wr.alloc (.cells #[.int .i64 m, .int .i64 i, .int .i64 s, .int .i64 (T + 1)] 43)).drewN nq) (HR.out.alloc _) _
                have hcn := cell_four_new ((wr.alloc (.cells #[.int .i64 m, .int .i64 i, .int .i64 s, .int .i64 (T + 1)] 43)).drewN nq) (.int .i64 m) (.int .i64 i) (.int .i64 s) (.int .i64 (T + 1)) 43
                rw [show ((wr.alloc (.cells #[.int .i64 m, .int .i64 i, .int .i64 s, .int .i64 (T + 1)] 43)).drewN nq).heap.size = wr.heap.size + 1 from by simp] at hcn
                have HA := Lib.hid hA
                have HCN := Lib.hid hcn
                clear hA hcn
                go_wp2_with (at_builtin; refine wpList_append_own _ rfl _ _ 36 rfl w1.heap.size 43 i0 (.agg #[.int .i64 0, .int .i64 0, .int .i64 0, .int .i64 0]) 4 32 Try.underlying36 hi hz0 hz1 hz2 rfl (by decide) _ _ _ rfl HA.out ⟨wr.heap.size + 1, 0, none⟩ 1 1 [.int .i64 m, .int .i64 i, .int .i64 s, .int .i64 (T + 1)] rfl rfl HCN.out (by simp [Value.oneCell']) (by unfold maxLen; omega) (by omega) (by simp; omega) ?_; intro v' w5 hown' hgrow _; have HO1 := Lib.hid hown'; have HG := Lib.hid hgrow; clear hown' hgrow)
                go_roundw
                case rel =>
                  have hn : (toldUp tk ⟨⟨m, i, s⟩, t⟩).n < often := by have := HT.out; have := HOF.out; simp only [toldUp, htk, reduceIte]; omega
                  have ho := HO1.out
                  have hT' := HT.out
                  subst hT'
                  refine ⟨k + 1, by omega, by go_num, ?_, own_below HA.out (ext_alloc (ext_drewN (ext_alloc HBz.out _) _) _) HG.out (by simp; omega) (Nat.le_refl _)⟩
                  rw [restOf_up HK.out hn, List.length_append, cellsT_snoc]
                  simp only [toldUp, htk, reduceIte]
                  exact ho
                case measure => simp [intOf]; omega
              · have g1 : decide (T + 1 < OF) = false := by simpa using q1
                go_upto_region 20 with fail
                go_quiet (fail)
                go_wp2_with fail
                go_roundw
                case rel =>
                  have hn : ¬ (toldUp tk ⟨⟨m, i, s⟩, t⟩).n < often := by have := HT.out; have := HOF.out; simp only [toldUp, htk, reduceIte]; omega
                  refine ⟨k + 1, by omega, by go_num, ?_, ext_drewN (ext_alloc HBz.out _) _⟩
                  rw [restOf_out HK.out hn]
                  exact HR.out.alloc _
                case measure => simp [intOf]; omega
            | false =>
              rw [htk] at htb
              have q1 := hto
              · have g1 : decide (T < OF) = true := by simpa using q1
                go_upto_region 20 with fail
                go_quiet (fail)
                have hA : (((wr.alloc (.cells #[.int .i64 m, .int .i64 i, .int .i64 s, .int .i64 T] 43)).drewN nq).alloc (.cells #[.int .i64 m, .int .i64 i, .int .i64 s, .int .i64 T] 43)).ownsRow w1.heap.size 43 4 u10 (restOf often tk (L.take k)).length (cellsT (restOf often tk (L.take k))) := World.ownsRow.alloc (w := (wr.alloc (.cells #[.int .i64 m, .int .i64 i, .int .i64 s, .int .i64 T] 43)).drewN nq) (HR.out.alloc _) _
                have hcn := cell_four_new ((wr.alloc (.cells #[.int .i64 m, .int .i64 i, .int .i64 s, .int .i64 T] 43)).drewN nq) (.int .i64 m) (.int .i64 i) (.int .i64 s) (.int .i64 T) 43
                rw [show ((wr.alloc (.cells #[.int .i64 m, .int .i64 i, .int .i64 s, .int .i64 T] 43)).drewN nq).heap.size = wr.heap.size + 1 from by simp] at hcn
                have HA := Lib.hid hA
                have HCN := Lib.hid hcn
                clear hA hcn
                go_wp2_with (at_builtin; refine wpList_append_own _ rfl _ _ 36 rfl w1.heap.size 43 i0 (.agg #[.int .i64 0, .int .i64 0, .int .i64 0, .int .i64 0]) 4 32 Try.underlying36 hi hz0 hz1 hz2 rfl (by decide) _ _ _ rfl HA.out ⟨wr.heap.size + 1, 0, none⟩ 1 1 [.int .i64 m, .int .i64 i, .int .i64 s, .int .i64 T] rfl rfl HCN.out (by simp [Value.oneCell']) (by unfold maxLen; omega) (by omega) (by simp; omega) ?_; intro v' w5 hown' hgrow _; have HO1 := Lib.hid hown'; have HG := Lib.hid hgrow; clear hown' hgrow)
                go_roundw
                case rel =>
                  have hn : (toldUp tk ⟨⟨m, i, s⟩, t⟩).n < often := by have := HT.out; have := HOF.out; simp only [toldUp, htk, reduceIte, Bool.false_eq_true]; omega
                  have ho := HO1.out
                  have hT' := HT.out
                  subst hT'
                  refine ⟨k + 1, by omega, by go_num, ?_, own_below HA.out (ext_alloc (ext_drewN (ext_alloc HBz.out _) _) _) HG.out (by simp; omega) (Nat.le_refl _)⟩
                  rw [restOf_up HK.out hn, List.length_append, cellsT_snoc]
                  simp only [toldUp, htk, reduceIte, Bool.false_eq_true]
                  exact ho
                case measure => simp [intOf]; omega
          · obtain rfl : k = L.length := by omega
            rw [List.take_length] at hrow
            obtain ⟨pz, cz, hz⟩ := ownsRow_form hrow
            subst hz
            have HR := Lib.hid hrow
            have HBz := Lib.hid hBz
            have HB2 := Lib.hid hB2
            clear hrow hBz hB2 hw1z
            go_wp2_with fail
            go_ret
            exact ⟨_, _, _, rfl, HI.out.picked, HF.out, ownsRow_weaken (ownsRow_setCell_below (HI.out.row.kept (grownBy_of_below' HBz.out none) (by cases hv : vo.ownBlock <;> simp)) (a := ⟨q, 1, none⟩) (by show q < _; omega) _) (Nat.le_succ _), take_done HH.out HB2.out HR.out (Nat.le_of_lt HI.out.lt)⟩
end Go.Proofs.Ytlcmehighgmoeaa
