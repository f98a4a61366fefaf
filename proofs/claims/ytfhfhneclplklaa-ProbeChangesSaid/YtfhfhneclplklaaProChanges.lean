/- ProbeChanges' walk. -/
import Derived.Test.YtfhfhneclplklaaProChangesMath
namespace Go.Proofs.Ytfhfhneclplklaa
open Go Go.RowKit

set_option maxHeartbeats 4000000 in
set_option maxRecDepth 100000 in
theorem chgLaw_any (me : Int) (va : Value) (a : List Int) (vb : Value) (b : List Int) (draw : Int) (w : World) (_hs : (Lit.int .i64 me).wf = true) (ha : SrcI w va a) (hma : a.length * 8 ≤ 140737488351232) (hb : SrcI w vb b) (hmb : b.length * 8 ≤ 140737488351232) (h0 : 0 ≤ draw) (h1 : draw < 18446744073709551616) :
    Gives Try.prog 7 #[.int .i64 me, va, vb, .int .u64 draw] w (.bool true) := by
  unfold Gives
  have HAw := Lib.hid awake_any
  have HA := Lib.hid ha.1
  have HBb := Lib.hid hb.1
  obtain ⟨pa, ca, rfl, _⟩ := ha.1.form
  obtain ⟨pb, cb, rfl, _⟩ := hb.1.form
  clear ha hb
  by_cases hla : 50 < a.length
  · go_enter Try.func7, Try.ntmps7
    go_wp2_with fail
    refine Gives.mono' (HAw.out _) ?_
    intro z
    go_wp2_with fail
    go_ret
    exact ⟨rfl, Later.ex (by repeat (first | exact ext_refl _ | refine ext_later ?_ _ | refine ext_alloc ?_ _ | refine ext_drew ?_ | refine ext_drewN ?_ _))⟩
  by_cases hlb : 50 < b.length
  · go_enter Try.func7, Try.ntmps7
    go_wp2_with fail
    refine Gives.mono' (HAw.out _) ?_
    intro z
    go_wp2_with fail
    go_ret
    exact ⟨rfl, Later.ex (by repeat (first | exact ext_refl _ | refine ext_later ?_ _ | refine ext_alloc ?_ _ | refine ext_drew ?_ | refine ext_drewN ?_ _))⟩
  have HNew := Lib.hid (newS_any (ext_refl w) me)
  obtain ⟨d2, hd2⟩ : ∃ d, IntKind.u64.wrap (draw + 1) = d := ⟨_, rfl⟩
  obtain ⟨hd0, hd1⟩ := u64_wrap (draw + 1)
  rw [hd2] at hd0 hd1
  have HD2 := Lib.hid hd2
  obtain ⟨x1, R1, hx1⟩ : ∃ x r, nextOf me [] a draw = (x, r) := ⟨_, _, rfl⟩
  obtain ⟨x2, R2, hx2⟩ : ∃ x r, nextOf me R1 b d2 = (x, r) := ⟨_, _, rfl⟩
  have hR1 : R1.length ≤ 64 := by have := nextOf_len me [] a draw (by simp); rw [hx1] at this; exact this
  have hR2 : R2.length ≤ 64 := by have := nextOf_len me R1 b d2 hR1; rw [hx2] at this; exact this
  have HX1 := Lib.hid hx1
  have HX2 := Lib.hid hx2
  clear hd2 hx1 hx2
  go_enter Try.func7, Try.ntmps7
  go_wp2_with fail
  refine HNew.out.mono ?_
  rintro e w1 ⟨m, rfl, hp1⟩
  have hn1 := nextS_any hp1 a draw (.slice pa a.length ca) (by simp) (HA.out.below hp1.below) hma h0 h1
  unfold NextS at hn1
  rw [HX1.out] at hn1
  have HN1 := Lib.hid hn1
  clear hp1 hn1 HNew
  go_wp2_with fail
  refine HN1.out.mono ?_
  rintro e w2 ⟨rfl, hp2⟩
  have hp2' := hp2
  obtain ⟨⟨H, hO, hH⟩, hb2⟩ := hp2
  have HRest := Lib.hid (restP_any m me R1 w2 H hO (by omega))
  have HLt := Lib.hid (fun k hk => (proO_owns m me R1).lt w2 H hO k hk)
  have HO2 := Lib.hid hO
  have HH := Lib.hid hH
  have HB2 := Lib.hid hb2
  clear hO hH hb2 hp2' HN1
  go_wp2_with fail
  refine HRest.out.mono ?_
  rintro e w3 ⟨ur, rfl, hmr⟩
  obtain ⟨pr, cr, rfl⟩ := ownsRow_form hmr.1
  have hO3 := (proO_owns m me R1).kept w2 w3 H HO2.out hmr.2.size fun k hk => hmr.2.block k (HLt.out k hk)
  have hb3 := HB2.out.trans (hmr.2.mono HB2.out.size)
  have hn2 := nextH_any hO3 HH.out hb3 b d2 (.slice pb b.length cb) (by omega) (HBb.out.below hb3) hmb hd0 hd1
  unfold NextH at hn2
  rw [HX2.out] at hn2
  have HN2 := Lib.hid hn2
  have HMr := Lib.hid hmr
  clear hn2 hO3 hb3 hmr HRest
  have hw := HD2.out
  go_wp2_with fail
  refine HN2.out.mono ?_
  rintro e w4 ⟨rfl, hp4, hf4⟩
  have HR4 := Lib.hid (HMr.out.kept hf4 fun k hk => HLt.out k hk).1
  have HP4 := Lib.hid hp4
  have hpa := refPeers_any (.slice pa a.length ca) a me w4 (HA.out.below hp4.below) hma
  have HPb := Lib.hid (fun (W : World) (hW : Below w.heap.size w W) => refPeers_any (.slice pb b.length cb) b me W (HBb.out.below hW) hmb)
  unfold PeersEnd at hpa HPb
  obtain ⟨O, hOe⟩ : ∃ O, peersOf a me = O := ⟨_, rfl⟩
  obtain ⟨N, hNe⟩ : ∃ N, peersOf b me = N := ⟨_, rfl⟩
  rw [hOe] at hpa
  simp only [hNe] at HPb
  have HOe := Lib.hid hOe
  have HNe := Lib.hid hNe
  have HPa := Lib.hid hpa
  have hO8 : O.length ≤ 8 := by rw [← hOe]; exact peersOf_len _ _
  have hN8 : N.length ≤ 8 := by rw [← hNe]; exact peersOf_len _ _
  have HNn : Hid N.Nodup := Lib.hid (by rw [← hNe]; exact peersOf_nodup _ _)
  clear hp4 hf4 hpa hOe hNe HN2 HMr hw
  go_wp2_with fail
  refine HPa.out.mono ?_
  rintro e w5 ⟨uo, rfl, hmo⟩
  obtain ⟨po, co, rfl⟩ := ownsRow_form hmo.1
  have HP5 : Hid (PSt w m me R2 w5) := Lib.hid (HP4.out.later ⟨w5, hmo.2⟩)
  have HR5 := Lib.hid (HR4.out.below hmo.2)
  clear hmo HPa
  go_wp2_with fail
  refine (HPb.out w5 HP5.out.below).mono ?_
  rintro e w6 ⟨un, rfl, hmn⟩
  obtain ⟨pn, cn, rfl⟩ := ownsRow_form hmn.1
  have HP6 : Hid (PSt w m me R2 w6) := Lib.hid (HP5.out.later ⟨w6, hmn.2⟩)
  have HR6 := Lib.hid (HR5.out.below hmn.2)
  have HI6 := Lib.hid hmn.list
  clear hmn HPb HP4 HP5 HR4 HR5
  by_cases hO0 : O.length = 0
  · have hOn : O = [] := List.eq_nil_of_length_eq_zero hO0
    have e1 := next_none me a draw (by rw [HOe.out]; exact hOn)
    rw [HX1.out] at e1
    obtain ⟨rfl, rfl⟩ := Prod.mk.inj e1
    have HB6 := Lib.hid HP6.out.below
    rw [hO0]
    clear e1 hOn
    go_wp2_with fail
    refine Gives.mono' (HAw.out _) ?_
    intro z
    go_wp2_with fail
    go_ret
    exact ⟨rfl, Later.ex (below_later HB6.out HB6.out.size z)⟩
  have hO1 : (((O.length : Nat) : Int) == 0) = false := by rw [beq_eq_false_iff_ne]; omega
  rcases next_cases me R1 b d2 with ⟨hN0, hx⟩ | ⟨hN0, hx⟩
  · rw [HNe.out] at hN0
    rw [HX2.out] at hx
    obtain ⟨rfl, rfl⟩ := Prod.mk.inj hx
    have HRs := Lib.hid (restS_any HP6.out (by omega))
    rw [hN0, List.length_nil]
    clear hx hN0
    go_wp2_with fail
    refine HRs.out.mono ?_
    rintro e w7 ⟨ps, cs, rfl, hi7, hp7, hb7⟩
    have HS := Lib.hid (sameI_any (.slice ps R2.length cs) (.slice pr R2.length cr) R2 w7 hi7 (HR6.out.below hb7) (by omega))
    have HB7 := Lib.hid hp7.below
    clear hi7 hp7 hb7 HRs
    go_wp2_with fail
    refine Gives.mono' HS.out ?_
    intro x8
    go_wp2_with fail
    refine Gives.mono' (HAw.out _) ?_
    intro z
    go_wp2_with fail
    go_ret
    exact ⟨rfl, Later.ex (below_later (below_later HB7.out HB7.out.size x8) (Nat.le_trans HB7.out.size x8.below.size) z)⟩
  · rw [HNe.out] at hN0 hx
    rw [HX2.out] at hx
    have hNl : (((N.length : Nat) : Int) == 0) = false := by have := List.length_pos_iff.2 hN0; rw [beq_eq_false_iff_ne]; omega
    have HX := Lib.hid hx
    clear hx hN0
    go_wp2_with fail
    have HB6 := Lib.hid HP6.out.below
    obtain ⟨w7, hw7⟩ : ∃ W, W = w6 := ⟨_, rfl⟩
    subst hw7
    go_loopw [15, 77] (fun v15 v77 wr => ∃ q : Nat, v77 = .int .i64 q ∧ q ≤ R1.length ∧ MadeI w7 wr v15 ((R1.take q).filter fun x => N.contains x)) (fun _ v77 _ => R1.length - (intOf v77).toNat)
    case atStart => exact ⟨0, rfl, by omega, madeI_nil (Below.refl _ _)⟩
    case round =>
      obtain ⟨q, rfl, hq, hmq⟩ := hrel
      have HMq := Lib.hid hmq
      obtain ⟨pq, cq, hvq⟩ := ownsRow_form hmq.1
      clear hmq
      by_cases hql : q < R1.length
      · obtain ⟨c, hqc⟩ : ∃ c, R1[q]? = some c := ⟨_, List.getElem?_eq_getElem hql⟩
        obtain ⟨pr', cr', hv, hrow⟩ := (HR6.out.below HMq.out.2).form
        obtain ⟨rfl, -, rfl⟩ := Value.slice.inj hv
        rcases hrow with e0 | ⟨bk, o, rfl, hlt, hc⟩
        · rw [e0] at hql; simp at hql
        have a0 := hc q c hqc
        have hqd : decide ((q : Int) < (R1.length : Int)) = true := by simp; omega
        have HQc := Lib.hid hqc
        obtain ⟨Fq, hFq⟩ : ∃ F, ((R1.take q).filter fun x => N.contains x) = F := ⟨_, rfl⟩
        have hFl : Fq.length ≤ 64 := by rw [← hFq]; exact Nat.le_trans (List.length_filter_le _ _) (by rw [List.length_take]; omega)
        have HFq := Lib.hid hFq
        rw [hFq] at HMq hvq
        clear hc hqc hv hFq
        go_wp2_with fail
        go_loopw [15, 83] (fun v15 v83 wz => ∃ i : Nat, v83 = .int .i64 i ∧ i ≤ N.length ∧ MadeI w7 wz v15 (Fq ++ if (N.take i).contains c then [c] else [])) (fun _ v83 _ => N.length - (intOf v83).toNat)
        case atStart => exact ⟨0, rfl, by omega, by simpa using HMq.out⟩
        case round =>
          clear HMq hvq
          obtain ⟨i, rfl, hi, hmi⟩ := hrel
          have HMi := Lib.hid hmi
          clear hmi
          by_cases hil : i < N.length
          · obtain ⟨t, hic⟩ : ∃ c, N[i]? = some c := ⟨_, List.getElem?_eq_getElem hil⟩
            obtain ⟨pn', cn', hv, hrow⟩ := (HI6.out.below HMi.out.2).form
            obtain ⟨rfl, -, rfl⟩ := Value.slice.inj hv
            rcases hrow with e0 | ⟨bn, on, rfl, hltn, hcn⟩
            · rw [e0] at hil; simp at hil
            have b0 := hcn i t hic
            have hid : decide ((i : Int) < (N.length : Int)) = true := by simp; omega
            cases g : (c == t) with
            | true =>
              have hct : t = c := (eq_of_beq g).symm
              have hno := stay_step HNn.out hic hct
              have HUp := Lib.hid (contains_take (n := c) hic)
              rw [hno] at HMi HUp
              simp only [Bool.false_eq_true, if_false, List.append_nil] at HMi
              have HSrc : Hid (SrcI (wr.alloc (.cells #[.int .i64 c] 3)) (.slice (some ⟨wr.heap.size, 0, none⟩) 1 1) [c]) := Lib.hid (srcI_one (heap_alloc_new wr _))
              have HMa := Lib.hid (HMi.out.later ⟨wr.alloc (.cells #[.int .i64 c] 3), ext_alloc (ext_refl _) _⟩)
              dsimp only at HMa
              clear hcn hic hv hno
              go_wp2_with (at_builtin; refine wpListI_append (xs := Fq) (l := [c]) rfl _ _ rfl rfl rfl HMa.out HSrc.out (by simp; omega) ?_; intro v' w5 hm; have HM5 := Lib.hid hm; clear hm)
              go_roundw
              case rel => exact ⟨i + 1, by go_num, by omega, by rw [HUp.out, hct]; simpa using HM5.out⟩
              case measure => simp [intOf]; omega
            | false =>
              have g' : (t == c) = false := by rw [beq_eq_false_iff_ne] at g ⊢; exact fun e => g e.symm
              have HUp := Lib.hid (contains_take (n := c) hic)
              rw [g', Bool.or_false] at HUp
              clear hcn hic hv
              go_wp2_with fail
              go_roundw
              case rel => exact ⟨i + 1, by go_num, by omega, by rw [HUp.out]; exact HMi.out⟩
              case measure => simp [intOf]; omega
          · obtain rfl : i = N.length := by omega
            have HF := Lib.hid (show MadeI w7 wr _ ((R1.take (q + 1)).filter fun x => N.contains x) from by
              have := HMi.out
              rw [List.take_length] at this
              cases hcn : N.contains c with
              | true => rw [filter_hit HQc.out hcn, HFq.out]; rw [hcn] at this; exact this
              | false => rw [filter_miss HQc.out hcn, HFq.out]; rw [hcn] at this; simpa using this)
            go_wp2_with fail
            go_roundw
            case rel => exact ⟨q + 1, by go_num, by omega, HF.out⟩
            case measure => simp [intOf]; omega
      · obtain rfl : q = R1.length := by omega
        rw [List.take_length] at HMq hvq
        obtain ⟨St, hSt⟩ : ∃ F, (R1.filter fun x => N.contains x) = F := ⟨_, rfl⟩
        rw [hSt] at HMq hvq
        have HX' := HX.out
        rw [hSt] at HX'
        have HP8 : Hid (PSt w m me R2 wr) := Lib.hid (HP6.out.later ⟨wr, HMq.out.2⟩)
        subst hvq
        clear hSt HX HP6 HR6 HI6
        rcases HX' with ⟨x, r, rfl, hx⟩ | ⟨rfl, hx⟩
        · obtain ⟨rfl, rfl⟩ := Prod.mk.inj hx
          have hr64 : R2.length + 1 ≤ 65 := by omega
          obtain ⟨g, cap, hv, _, hgl, hfz, hcl⟩ := HMq.out.open (by simp)
          obtain ⟨rfl, -, rfl⟩ := Value.slice.inj hv
          have hcap : R2.length + 1 ≤ cq := by
            obtain ⟨_, p', cap', e, h1, _⟩ := HMq.out.src
            obtain ⟨_, _, rfl⟩ := Value.slice.inj e
            simpa using h1
          have c0 := hcl 0 x2 (by simp)
          have HSt : Hid (IntsAt wr (.slice (if cq = 1 then some ⟨g, 0, none⟩ else some ⟨g, 1, none⟩) R2.length (cq - 1)) R2) := Lib.hid (by
            by_cases hr : R2 = []
            · subst hr; exact .inl ⟨rfl, _, _, rfl⟩
            · have : 0 < R2.length := List.length_pos_iff.2 hr
              rw [if_neg (by omega)]
              exact .inr ⟨g, 1, _, rfl, hgl, fun k y hk => by rw [Nat.add_comm]; exact hcl (k + 1) y (by simpa using hk)⟩)
          have HRs := Lib.hid (restS_any (HP8.out.later ⟨wr.drew, ext_drew (ext_refl wr)⟩) (by omega))
          have gs : decide ((0 : Int) < (R2.length : Int) + 1) = true := by rw [decide_eq_true_eq]; omega
          have g1 : (1 : Int) ≤ (R2.length : Int) + 1 := by omega
          rw [List.length_cons]
          clear hx hv hfz hcl
          by_cases hc1 : cq = 1
          · subst hc1
            rw [if_pos rfl] at HSt
            obtain ⟨rfl⟩ : R2 = [] := List.eq_nil_of_length_eq_zero (by omega)
            go_upto_region 24 with fail
            go_region_law (first | (have h := HP10.out.below; refine stp_callw0 (R := fun v w' => v = .bool true ∧ Below w.heap.size w w') (by rfl) 18 _ rfl Try.call18 (by exact (HAw.out _).mono fun e w' ⟨he, x, hx⟩ => ⟨_, he, rfl, by rw [hx]; exact below_later h h.size x⟩) ?_; clear h; rintro _ w11 ⟨rfl, hb11⟩) | (have h := HP9.out; have h2 := HI9.out; refine stp_callw2 (R := fun v w' => v = .bool true ∧ PSt w m me [] w') (v0 := .slice ps 0 cs) (v1 := .slice (some ⟨g, 0, none⟩) 0 0) (by rfl) 10 _ _ _ rfl Try.call10 (by rfl) (by rfl) (by exact (sameI_any _ _ [] _ h2.1 h2.2 (by first | omega | simp)).mono fun e w' ⟨he, x, hx⟩ => ⟨_, he, rfl, by rw [hx]; exact h.later x⟩) ?_; clear h h2; rintro _ w10 ⟨rfl, hp10⟩; have HP10 := Lib.hid hp10; clear hp10) | (refine stp_callw1 (R := fun v w' => ∃ ps cs, v = .slice ps 0 cs ∧ PSt w m me [] w' ∧ IntsAt w' (.slice ps 0 cs) [] ∧ IntsAt w' (.slice (some ⟨g, 0, none⟩) 0 0) []) (v0 := .pointer (some ⟨m, 0, none⟩)) (by rfl) 17 _ _ rfl Try.call17 (by rfl) (by refine HRs.out.mono ?_; rintro e w' ⟨ps, cs, rfl, hi, h, hb⟩; exact ⟨_, rfl, ps, cs, rfl, h, hi, (HSt.out.below (ext_drew (ext_refl wr))).below hb⟩) ?_; rintro _ w9 ⟨ps, cs, rfl, hp9, hi9⟩; have HP9 := Lib.hid hp9; have HI9 := Lib.hid hi9; clear hp9 hi9))
            all_goals
              go_wp2_with fail
              go_ret
              exact ⟨rfl, Later.ex hb11⟩
          · rw [if_neg hc1] at HSt
            go_upto_region 24 with fail
            go_region_law (first | (have h := HP10.out.below; refine stp_callw0 (R := fun v w' => v = .bool true ∧ Below w.heap.size w w') (by rfl) 18 _ rfl Try.call18 (by exact (HAw.out _).mono fun e w' ⟨he, x, hx⟩ => ⟨_, he, rfl, by rw [hx]; exact below_later h h.size x⟩) ?_; clear h; rintro _ w11 ⟨rfl, hb11⟩) | (have h := HP9.out; have h2 := HI9.out; refine stp_callw2 (R := fun v w' => v = .bool true ∧ PSt w m me R2 w') (v0 := .slice ps R2.length cs) (v1 := .slice (some ⟨g, 1, none⟩) R2.length (cq - 1)) (by rfl) 10 _ _ _ rfl Try.call10 (by rfl) (by rfl) (by exact (sameI_any _ _ R2 _ h2.1 h2.2 (by first | omega | simp)).mono fun e w' ⟨he, x, hx⟩ => ⟨_, he, rfl, by rw [hx]; exact h.later x⟩) ?_; clear h h2; rintro _ w10 ⟨rfl, hp10⟩; have HP10 := Lib.hid hp10; clear hp10) | (refine stp_callw1 (R := fun v w' => ∃ ps cs, v = .slice ps R2.length cs ∧ PSt w m me R2 w' ∧ IntsAt w' (.slice ps R2.length cs) R2 ∧ IntsAt w' (.slice (some ⟨g, 1, none⟩) R2.length (cq - 1)) R2) (v0 := .pointer (some ⟨m, 0, none⟩)) (by rfl) 17 _ _ rfl Try.call17 (by rfl) (by refine HRs.out.mono ?_; rintro e w' ⟨ps, cs, rfl, hi, h, hb⟩; exact ⟨_, rfl, ps, cs, rfl, h, hi, (HSt.out.below (ext_drew (ext_refl wr))).below hb⟩) ?_; rintro _ w9 ⟨ps, cs, rfl, hp9, hi9⟩; have HP9 := Lib.hid hp9; have HI9 := Lib.hid hi9; clear hp9 hi9))
            all_goals
              go_wp2_with fail
              go_ret
              exact ⟨rfl, Later.ex hb11⟩
        · have hx' : (R2.length : Int) = (N.length : Int) - 1 := hx
          have g : (((R2.length : Nat) : Int) == (N.length : Int) - 1) = true := by rw [beq_iff_eq]; exact hx'
          have HRs := Lib.hid (restS_any HP8.out (by omega))
          rw [List.length_nil]
          clear hx hx'
          go_wp2_with fail
          refine HRs.out.mono ?_
          rintro e w9 ⟨ps, cs, rfl, _, hp9, _⟩
          have HB9 := Lib.hid hp9.below
          clear hp9
          go_wp2_with fail
          refine Gives.mono' (HAw.out _) ?_
          intro z
          go_wp2_with fail
          go_ret
          exact ⟨rfl, Later.ex (below_later HB9.out HB9.out.size z)⟩
end Go.Proofs.Ytfhfhneclplklaa
