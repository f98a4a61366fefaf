/- ProbeRounds' walk. -/
import Derived.Test.YtfhfhneclplklaaProRoundsSt
import Derived.Test.YtfhfhneclplklaaGreedy
namespace Go.Proofs.Ytfhfhneclplklaa
open Go Go.RowKit Go.BigFrame

set_option maxHeartbeats 4000000 in
set_option maxRecDepth 100000 in
theorem rndLaw_any (me : Int) (vp : Value) (l : List Int) (vd : Value) (ds : List Int) (w : World) (_hw : (Lit.int .i64 me).wf = true) (hp : SrcI w vp l) (hm : l.length * 8 ≤ 140737488351232) (hd : DrawsAt w vd ds) :
    Gives Try.prog 5 #[.int .i64 me, vp, vd] w (.bool true) := by
  unfold Gives
  have HAw := Lib.hid awake_any
  have HNode := Lib.hid nodeI_any
  have HL := Lib.hid hp.1
  obtain ⟨pp, cp, rfl, hpp⟩ := hp.1.form
  have HPp := Lib.hid hpp
  obtain ⟨pd, cd, rfl, hpd⟩ : ∃ p c, vd = .slice p ds.length c ∧ (ds = [] ∨ ∃ b o, p = some ⟨b, o, none⟩ ∧ b < w.heap.size ∧ ∀ k x, ds[k]? = some x → w.cell? ⟨b, o + k, none⟩ = some (.int .u64 x) ∧ 0 ≤ x ∧ x < 18446744073709551616) := by
    rcases hd with ⟨rfl, p, c, rfl⟩ | ⟨b, o, c, rfl, hlt, hc⟩
    · exact ⟨_, _, rfl, .inl rfl⟩
    · exact ⟨_, _, rfl, .inr ⟨b, o, rfl, hlt, hc⟩⟩
  have HPd := Lib.hid hpd
  clear hp hpp hd hpd
  by_cases hl1 : 100 < l.length
  · go_enter Try.func5, Try.ntmps5
    go_wp2_with fail
    refine Gives.mono' (HAw.out _) ?_
    intro z
    go_wp2_with fail
    go_ret
    exact ⟨rfl, Later.ex (by repeat (first | exact ext_refl _ | refine ext_later ?_ _ | refine ext_alloc ?_ _ | refine ext_drew ?_ | refine ext_drewN ?_ _))⟩
  by_cases hl2 : 80 < ds.length
  · go_enter Try.func5, Try.ntmps5
    go_wp2_with fail
    refine Gives.mono' (HAw.out _) ?_
    intro z
    go_wp2_with fail
    go_ret
    exact ⟨rfl, Later.ex (by repeat (first | exact ext_refl _ | refine ext_later ?_ _ | refine ext_alloc ?_ _ | refine ext_drew ?_ | refine ext_drewN ?_ _))⟩
  have g1 : decide ((100 : Int) < (l.length : Int)) = false := by simp; omega
  have g2 : decide ((80 : Int) < (ds.length : Int)) = false := by simp; omega
  have HT0 := Lib.hid (ts_start w)
  go_enter Try.func5, Try.ntmps5
  go_upto_region 4 with fail
  obtain ⟨tb, htb⟩ : ∃ b, w.heap.size = b := ⟨_, rfl⟩
  obtain ⟨w1, hw1⟩ : ∃ W, w.alloc (.cells #[.int .i64 0, .int .i64 0, .int .i64 0, .int .i64 0, .int .i64 0, .int .i64 0, .int .i64 0, .int .i64 0] 41) = W := ⟨_, rfl⟩
  rw [htb, hw1] at HT0
  rw [htb, hw1]
  clear htb hw1
  go_wp2_with fail
  go_loopw [8, 29] (fun v8 v29 wr => ∃ k : Nat, v29 = .int .i64 k ∧ k ≤ l.length ∧ v8 = .int .i64 (c8 (isPeer (l.take k) me) : Nat) ∧ Hid (TS w tb (fun j => if isPeer (l.take k) me j then 1 else 0) wr)) (fun _ v29 _ => l.length - (intOf v29).toNat)
  case atStart => exact ⟨0, rfl, by omega, by simp [isPeer, c8], Lib.hid (HT0.out.cast fun j hj => by simp [isPeer])⟩
  case round =>
    clear HT0
    obtain ⟨k, rfl, hk, rfl, HT⟩ := hrel
    obtain ⟨F, hF⟩ : ∃ F, isPeer (l.take k) me = F := ⟨_, rfl⟩
    have HF := Lib.hid hF
    rw [hF] at HT ⊢
    by_cases hkl : k < l.length
    · obtain ⟨x, hkc⟩ : ∃ c, l[k]? = some c := ⟨_, List.getElem?_eq_getElem hkl⟩
      have HUp := Lib.hid (fun j => isPeer_up (self := me) hkc j)
      rw [hF] at HUp
      rcases HPp.out with h0 | ⟨b, o, rfl, hlt, hc⟩
      · rw [h0] at hkl; simp at hkl
      have hc0 : wr.cell? ⟨b, o + k, none⟩ = some (.int .i64 x) := (HT.out.below.cell (p := ⟨b, _, none⟩) hlt).trans (hc k x hkc)
      have hkd : decide ((k : Int) < (l.length : Int)) = true := by simp; omega
      have hC : c8 F ≤ 8 := c8_le F
      clear hc hkc hF
      cases hn : nodeI x with
      | false =>
        have HN0 : Hid (∀ W, Gives Try.prog 19 #[.int .i64 x] W (.bool false)) := Lib.hid fun W => (HNode.out x W).cast (by rw [hn])
        have HS : Hid (∀ j, j < 8 → F j = isPeer (l.take (k + 1)) me j) := Lib.hid fun j hj => by
          rw [HUp.out j, if_neg]
          intro e
          simp only [nodeI, decide_eq_false_iff_not] at hn
          omega
        clear hn
        go_wp2_with fail
        refine Gives.mono' (HN0.out _) ?_
        intro x1
        go_wp2_with fail
        go_roundw
        case rel => exact ⟨k + 1, by go_num, by omega, by rw [c8_same fun j hj => (HS.out j hj).symm], Lib.hid ((HT.out.later x1).cast fun j hj => by rw [HS.out j hj])⟩
        case measure => simp [intOf]; omega
      | true =>
        have HN0 : Hid (∀ W, Gives Try.prog 19 #[.int .i64 x] W (.bool true)) := Lib.hid fun W => (HNode.out x W).cast (by rw [hn])
        simp only [nodeI, decide_eq_true_eq] at hn
        obtain ⟨m, rfl⟩ : ∃ m : Nat, x = m := ⟨x.toNat, by omega⟩
        have hm8 : m < 8 := by omega
        clear hn
        cases hself : (((m : Int)) != me) with
        | false =>
          have HS : Hid (∀ j, j < 8 → F j = isPeer (l.take (k + 1)) me j) := Lib.hid fun j hj => by
            rw [HUp.out j]
            split
            · rename_i e
              have : j = m := by omega
              subst this
              have e2 : ((j : Int) == me) = true := by simpa using hself
              rw [e2]
              simp
            · rfl
          go_wp2_with fail
          refine Gives.mono' (HN0.out _) ?_
          intro x1
          go_wp2_with fail
          go_roundw
          case rel => exact ⟨k + 1, by go_num, by omega, by rw [c8_same fun j hj => (HS.out j hj).symm], Lib.hid ((HT.out.later x1).cast fun j hj => by rw [HS.out j hj])⟩
          case measure => simp [intOf]; omega
        | true =>
          have e2 : ((m : Int) == me) = false := by simpa using hself
          have hold := HT.out.tab.cell m hm8
          cases hFm : F m with
          | true =>
            have HS : Hid (∀ j, j < 8 → F j = isPeer (l.take (k + 1)) me j) := Lib.hid fun j hj => by
              rw [HUp.out j]
              split
              · rename_i e
                have : j = m := by omega
                subst this
                rw [hFm]
                rfl
              · rfl
            rw [hFm] at hold
            simp only [if_true] at hold
            have hlt2 := HT.out.tab.lt
            clear hFm e2
            go_wp2_with fail
            refine Gives.mono' (HN0.out _) ?_
            intro x1
            go_wp2_with fail
            go_roundw
            case rel => exact ⟨k + 1, by go_num, by omega, by rw [c8_same fun j hj => (HS.out j hj).symm], Lib.hid ((HT.out.later x1).cast fun j hj => by rw [HS.out j hj])⟩
            case measure => simp [intOf]; omega
          | false =>
            have HC : Hid (c8 (isPeer (l.take (k + 1)) me) = c8 F + 1) := Lib.hid (c8_up hm8 hFm (by rw [HUp.out m, if_pos rfl, e2]; simp) fun j hj => by rw [HUp.out j, if_neg (by omega)])
            have HS : Hid (∀ j, j < 8 → (if j = m then (1 : Int) else if F j then 1 else 0) = if isPeer (l.take (k + 1)) me j then 1 else 0) := Lib.hid fun j hj => by
              rw [HUp.out j]
              by_cases e : j = m
              · subst e
                rw [if_pos rfl, if_pos rfl, e2]
                simp
              · rw [if_neg e, if_neg (show ¬ (m : Int) = (j : Int) from by omega)]
            rw [hFm] at hold
            simp only [Bool.false_eq_true, if_false] at hold
            have hlt2 := HT.out.tab.lt
            clear hFm e2
            go_wp2_with fail
            refine Gives.mono' (HN0.out _) ?_
            intro x1
            have HT1 := Lib.hid (HT.out.later x1)
            have z1 := HT1.out.tab.fz m
            have z2 := HT1.out.tab.lt
            have z3 := (x1.below.cell (p := ⟨tb, m, none⟩) hlt2).trans hold
            go_wp2_with fail
            go_roundw
            case rel => exact ⟨k + 1, by go_num, by omega, by rw [HC.out]; go_num, Lib.hid ((HT1.out.set m hm8 1).cast HS.out)⟩
            case measure => simp [intOf]; omega
    · obtain rfl : k = l.length := by omega
      have hFl : F = isPeer l me := by rw [← HF.out, List.take_length]
      have hc8 : c8 F = (peersOf l me).length := by rw [hFl, peersOf, peersF_c8]
      obtain ⟨P, hP⟩ : ∃ P, peersOf l me = P := ⟨_, rfl⟩
      have hP8 : P.length ≤ 8 := by rw [← hP]; exact peersOf_len _ _
      have HPn : Hid P.Nodup := Lib.hid (by rw [← hP]; exact peersOf_nodup _ _)
      have HPi : Hid (∀ j : Nat, F j = true → (j : Int) < 8 → (j : Int) ∈ P) := Lib.hid fun j h h8 => by
        rw [← hP, peersOf_mem]
        rw [hFl] at h
        unfold isPeer at h
        rw [Bool.and_eq_true, List.contains_eq_mem] at h
        exact ⟨⟨by omega, h8⟩, by simpa using h.1, by simpa using h.2⟩
      have HPj : Hid (∀ j : Nat, (j : Int) ∈ P → F j = true) := Lib.hid fun j h => by
        rw [← hP, peersOf_mem] at h
        rw [hFl]
        unfold isPeer
        rw [Bool.and_eq_true, List.contains_eq_mem]
        exact ⟨by simpa using h.2.1, by simpa using h.2.2⟩
      have HPr : Hid (∀ x ∈ P, 0 ≤ x ∧ x < 8) := Lib.hid fun x h => by
        rw [← hP, peersOf_mem] at h
        exact h.1
      have HPe := Lib.hid hP
      rw [hP] at hc8
      rw [hc8]
      have HNew := Lib.hid (newP_any me wr)
      clear HF hF hFl hc8 hP
      go_wp2_with fail
      refine HNew.out.mono ?_
      rintro e w2 ⟨rfl, hn2⟩
      have HRS := Lib.hid (rs_start HT.out.below HT.out.tab ⟨rfl, hn2⟩)
      clear hn2 HNew
      go_upto_region 14 with fail
      obtain ⟨m, hme⟩ : ∃ b, wr.heap.size = b := ⟨_, rfl⟩
      obtain ⟨ta, hta⟩ : ∃ b, w2.heap.size = b := ⟨_, rfl⟩
      obtain ⟨w3, hw3⟩ : ∃ W, w2.alloc (.cells #[.int .i64 0, .int .i64 0, .int .i64 0, .int .i64 0, .int .i64 0, .int .i64 0, .int .i64 0, .int .i64 0] 41) = W := ⟨_, rfl⟩
      rw [hme, hta, hw3] at HRS
      rw [hme, hta, hw3]
      clear hme hta hw3 HT
      by_cases hP0 : P.length = 0
      · have hPn : P = [] := List.eq_nil_of_length_eq_zero hP0
        have HNx : Hid (∀ d, nextOf me [] l d = (-1, [])) := Lib.hid fun d => by unfold nextOf; rw [HPe.out, if_pos hPn]
        rw [hP0, show ((0 : Nat) : Int) = 0 from rfl]
        clear hPn
        go_wp2_with fail
        go_loopw [55] (fun v55 wz => ∃ q : Nat, v55 = .int .i64 q ∧ q ≤ ds.length ∧ Hid (RS w m me [] tb (fun j => if F j then 1 else 0) ta (fun _ => 0) wz)) (fun v55 _ => ds.length - (intOf v55).toNat)
        case atStart => exact ⟨0, rfl, by omega, HRS⟩
        case round =>
          clear HRS
          obtain ⟨q, rfl, hq, HR⟩ := hrel
          have HB := Lib.hid HR.out.below
          by_cases hql : q < ds.length
          · obtain ⟨d, hqc⟩ : ∃ c, ds[q]? = some c := ⟨_, List.getElem?_eq_getElem hql⟩
            rcases HPd.out with h0 | ⟨b, o, rfl, hlt, hc⟩
            · rw [h0] at hql; simp at hql
            obtain ⟨hc1, hd0, hd1⟩ := hc q d hqc
            have hc0 : wr.cell? ⟨b, o + q, none⟩ = some (.int .u64 d) := (HB.out.cell (p := ⟨b, _, none⟩) hlt).trans hc1
            have hqd : decide ((q : Int) < (ds.length : Int)) = true := by simp; omega
            have hx := nextR_any HR.out l d (.slice pp l.length cp) (by simp) (HL.out.below HB.out) hm hd0 hd1
            unfold NextR at hx
            rw [HNx.out] at hx
            have HX := Lib.hid hx
            clear hc hc1 hqc hx
            go_wp2_with fail
            refine HX.out.mono ?_
            rintro e w5 ⟨rfl, hr5⟩
            have HR5 := Lib.hid hr5
            clear hr5 HX
            go_wp2_with fail
            go_roundw
            case rel => exact ⟨q + 1, by go_num, by omega, HR5⟩
            case measure => simp [intOf]; omega
          · obtain rfl : q = ds.length := by omega
            go_wp2_with fail
            refine Gives.mono' (HAw.out _) ?_
            intro z
            go_wp2_with fail
            go_ret
            exact ⟨rfl, Later.ex (below_later HB.out HB.out.size z)⟩
      · have hPn : P ≠ [] := fun e => by rw [e] at hP0; simp at hP0
        have gP : (((P.length : Nat) : Int) == 0) = false := by rw [beq_eq_false_iff_ne]; omega
        have HNx : Hid (∀ rest d, ∃ x r, leftNow rest P d = x :: r ∧ nextOf me rest l d = (x, r)) := Lib.hid fun rest d => by
          obtain ⟨x, r, h⟩ := round_head (rest := rest) (draw := d) hPn
          exact ⟨x, r, h, by unfold nextOf; rw [HPe.out, if_neg hPn, h]; rfl⟩
        have HPne := Lib.hid hPn
        clear hPn
        go_wp2_with fail
        go_loopw [55] (fun v55 wz => ∃ (q : Nat) (rest : List Int) (fa : Nat → Int), v55 = .int .i64 q ∧ q ≤ ds.length ∧ Hid (RInv P q rest fa) ∧ Hid (RS w m me rest tb (fun j => if F j then 1 else 0) ta fa wz)) (fun v55 _ => ds.length - (intOf v55).toNat)
        case atStart => exact ⟨0, [], fun _ => 0, rfl, by omega, Lib.hid (.inl ⟨rfl, rfl, fun _ => rfl⟩), HRS⟩
        case round =>
          clear HRS
          obtain ⟨q, rest, fa, rfl, hq, HI, HR⟩ := hrel
          have HB := Lib.hid HR.out.below
          by_cases hql : q < ds.length
          · obtain ⟨d, hqc⟩ : ∃ c, ds[q]? = some c := ⟨_, List.getElem?_eq_getElem hql⟩
            rcases HPd.out with h0 | ⟨b, o, rfl, hlt, hc⟩
            · rw [h0] at hql; simp at hql
            obtain ⟨hc1, hd0, hd1⟩ := hc q d hqc
            have hc0 : wr.cell? ⟨b, o + q, none⟩ = some (.int .u64 d) := (HB.out.cell (p := ⟨b, _, none⟩) hlt).trans hc1
            have hqd : decide ((q : Int) < (ds.length : Int)) = true := by simp; omega
            obtain ⟨x, r, hln, hnx⟩ := HNx.out rest d
            obtain ⟨hxP, hri⟩ := HI.out.next HPne.out hP8 HPn.out hln
            have hx := nextR_any HR.out l d (.slice pp l.length cp) (by have := HI.out.len hP8; omega) (HL.out.below HB.out) hm hd0 hd1
            unfold NextR at hx
            rw [hnx] at hx
            have HX := Lib.hid hx
            obtain ⟨mx, rfl⟩ : ∃ mx : Nat, x = mx := ⟨x.toNat, by have := HPr.out x hxP; omega⟩
            have hm8 : mx < 8 := by have := HPr.out _ hxP; omega
            have HRi := Lib.hid hri
            have HFx := Lib.hid (HPj.out mx hxP)
            clear hc hc1 hqc hx hln hnx hri hxP
            go_wp2_with fail
            refine HX.out.mono ?_
            rintro e w5 ⟨rfl, hr5⟩
            have HR5 := Lib.hid hr5
            clear hr5 HX
            have HN0 : Hid (∀ W, Gives Try.prog 19 #[.int .i64 (mx : Int)] W (.bool true)) := Lib.hid fun W => (HNode.out mx W).cast (by simp [nodeI]; omega)
            go_wp2_with fail
            refine Gives.mono' (HN0.out _) ?_
            intro x6
            have HR6 := Lib.hid (HR5.out.later x6)
            have t0 := HR6.out.tin.cell mx hm8
            rw [HFx.out] at t0
            simp only [if_true] at t0
            have t1 := HR6.out.tin.lt
            have a0 := HR6.out.task.cell mx hm8
            have a1 := HR6.out.task.lt
            have a2 := HR6.out.task.fz mx
            have HR7 := Lib.hid (HR6.out.set mx hm8 (fa mx + 1))
            have hfew := HRi.out.few (j := mx)
            rw [if_pos rfl] at hfew
            go_upto_region 24 with fail
            obtain ⟨w7, hw7⟩ : ∃ W, x6.w.setCell ⟨ta, mx, none⟩ (.int .i64 (fa mx + 1)) = W := ⟨_, rfl⟩
            rw [hw7] at HR7 ⊢
            obtain ⟨Fa, hFa⟩ : ∃ Fa : Nat → Int, (fun i => if i = mx then fa mx + 1 else fa i) = Fa := ⟨_, rfl⟩
            have HRi' : Hid (RoundInv P (q + 1) r Fa) := Lib.hid (by
              have e : (fun j : Nat => if (j : Int) = (mx : Int) then fa j + 1 else fa j) = Fa := by
                rw [← hFa]
                funext j
                by_cases h : j = mx
                · subst h; simp
                · rw [if_neg h, if_neg (by omega)]
              rw [← e]
              exact HRi.out)
            rw [hFa] at HR7
            have HObj : Hid (w7.heap[ta]? = some (.cells (tab8 Fa) 41 (0, 0))) := Lib.hid HR7.out.task
            clear hw7 hFa HRi HR6 HR5 t0 t1 a0 a1 a2 hfew HFx HI HN0 HR
            go_wp2_with (refine wpList_load_row rfl _ _ rfl ta rfl _ _ _ _ HObj.out Try.underlying41 (by kernel_rfl) (by kernel_rfl) ?_)
            obtain ⟨tab, htab⟩ : ∃ t, tab8 Fa = t := ⟨_, rfl⟩
            have HIx : Hid (∀ (j : Nat) W, j < 8 → (Instr.index 41 (.agg tab) (.int .i64 j)).run Try.prog W = .ok (.int .i64 (Fa j)) W) := Lib.hid fun j W hj => by rw [← htab]; exact index_tab8 _ j hj W
            rw [htab]
            clear htab HObj
            obtain ⟨D, hD⟩ : ∃ D, q / P.length = D := ⟨_, rfl⟩
            obtain ⟨E, hE⟩ : ∃ E, q % P.length = E := ⟨_, rfl⟩
            have HT2 := Lib.hid (fun (j : Nat) h => HRi'.out.told (j := j) h)
            have HL2 := Lib.hid (HRi'.out.left HPne.out)
            rw [hE] at HL2
            simp only [hD] at HT2
            have hDq : D ≤ 80 := by rw [← hD]; have := Nat.div_le_self q P.length; omega
            have hE8 : E < P.length := by rw [← hE]; exact Nat.mod_lt _ (by omega)
            have HQuo : Hid ((q : Int).tdiv (P.length : Int) = (D : Int)) := Lib.hid (by rw [← hD]; rfl)
            have HRem : Hid ((q : Int) % (P.length : Int) = (E : Int)) := Lib.hid (by rw [← hE]; rfl)
            clear hD hE
            go_loopw [83] (fun v83 wz => ∃ j : Nat, v83 = .int .i64 j ∧ j ≤ 8 ∧ ∃ y : Later w7, wz = y.w) (fun v83 _ => 8 - (intOf v83).toNat)
            case atStart => exact ⟨0, rfl, by omega, ⟨w7, Below.refl _ _⟩, rfl⟩
            case round =>
              obtain ⟨j, rfl, hj, y, rfl⟩ := hrel
              by_cases hj8 : j < 8
              · have hjd : decide ((j : Int) < 8) = true := by simp; omega
                have hix := fun W => HIx.out j W hj8
                have hin := (HR7.out.later y).tin.cell j hj8
                have hil := (HR7.out.later y).tin.lt
                cases hFj : F j with
                | false =>
                  rw [hFj] at hin
                  simp only [Bool.false_eq_true, if_false] at hin
                  go_wp2_with fail
                  go_roundw
                  case rel => exact ⟨j + 1, by go_num, by omega, y, rfl⟩
                  case measure => simp [intOf]; omega
                | true =>
                  rw [hFj] at hin
                  simp only [if_true] at hin
                  have hjP := HPi.out j hFj (by omega)
                  have hq := HQuo.out
                  rcases HT2.out j hjP with h | h
                  · rw [h] at hix
                    clear h hjP
                    go_wp2_with fail
                    go_roundw
                    case rel => exact ⟨j + 1, by go_num, by omega, y, rfl⟩
                    case measure => simp [intOf]; omega
                  · rw [h] at hix
                    clear h hjP
                    go_wp2_with fail
                    go_roundw
                    case rel => exact ⟨j + 1, by go_num, by omega, y, rfl⟩
                    case measure => simp [intOf]; omega
              · obtain rfl : j = 8 := by omega
                have HR8 := Lib.hid (HR7.out.later y)
                have HRs := Lib.hid (restS_any (HR8.out.pst.later ⟨y.w.drew, ext_drew (ext_refl y.w)⟩) (by have := HL2.out; omega))
                have hl := HL2.out
                have gl : ((r.length : Int) != wrap64 ((P.length : Int) - 1 - (q : Int) % (P.length : Int))) = false := by
                  rw [HRem.out, bne_eq_false_iff_eq]
                  unfold wrap64
                  omega
                have hr8 : r.length ≤ 8 := by omega
                have HUps := Lib.hid (RInv.mk_next HRi'.out)
                clear hl HIx HT2 HQuo HL2 HRi' HRem
                go_upto_region 30 with fail
                refine wp_region_greedy (n := 10) (fresh := Array.replicate 10 false) (GK fun k => k < y.w.heap.size) (by kernel_rfl) rfl rfl ?_
                refine wpAnyK_batch [0, 3, 4, 5, 6, 7, 8] 3 rfl (by kernel_rfl) (by kernel_rfl) rfl (by simp only [pickL, nthL, List.cons_append, List.nil_append]; rfl) ?_
                repeat (go_big_quiet_step (fail))
                refine wpQuiet_nil ?_
                refine wpAnyG_call1 (i := 1) (d := some 108) (v0 := .pointer (some ⟨m, 0, none⟩)) (R := fun v w' => ∃ ps cs, v = .slice ps r.length cs ∧ Below y.w.drew.heap.size y.w.drew w') (by kernel_rfl) rfl (by rfl) rfl Try.call17 (by rfl) (by refine HRs.out.mono ?_; rintro e w' ⟨ps, cs, rfl, _, _, hb⟩; exact ⟨_, rfl, ps, cs, rfl, hb⟩) (by rintro _ w' ⟨_, _, _, hb⟩; exact GK.of_below hb (fun k hk => hk)) rfl ?_
                rintro _ w9 ⟨ps, cs, rfl, hb9⟩
                simp only [Act.put, List.setIfInBounds_toArray, List.set_cons_succ, List.set_cons_zero]
                refine wpAnyK_batch [2, 9] 0 rfl (by kernel_rfl) (by kernel_rfl) rfl (by simp only [pickL, nthL, List.cons_append, List.nil_append]; rfl) ?_
                repeat (go_big_quiet_step (fail))
                refine wpQuiet_nil ?_
                refine wpAnyG_end (by kernel_rfl) ?_
                have HR9 := Lib.hid ((HR8.out.later ⟨y.w.drew, ext_drew (ext_refl y.w)⟩).later ⟨w9, hb9⟩)
                go_wp2_with fail
                go_roundw
                case rel => exact ⟨q + 1, r, Fa, by go_num, by omega, HUps, HR9⟩
                case measure => simp [intOf]; omega
          · obtain rfl : q = ds.length := by omega
            go_wp2_with fail
            refine Gives.mono' (HAw.out _) ?_
            intro z
            go_wp2_with fail
            go_ret
            exact ⟨rfl, Later.ex (below_later HB.out HB.out.size z)⟩
end Go.Proofs.Ytfhfhneclplklaa
