/- ProbePlays' walk. -/
import Derived.Test.YtfhfhneclplklaaProPlaysSt
namespace Go.Proofs.Ytfhfhneclplklaa
open Go Go.RowKit Go.BigFrame

set_option maxHeartbeats 4000000 in
set_option maxRecDepth 100000 in
theorem plyLaw_any (me : Int) (v : Value) (l : List Call4) (k : Int) (w : World) (_hw : (Lit.int .i64 me).wf = true) (hl : Calls4At w v l) (_hk : (Lit.int .i64 k).wf = true) :
    Gives Try.prog 3 #[.int .i64 me, v, .int .i64 k] w (.bool true) := by
  unfold Gives
  have HAw := Lib.hid awake_any
  obtain ⟨pl, cl, rfl, hpl⟩ := hl.form
  have HPl := Lib.hid hpl
  have HNew := Lib.hid (newP_any me w)
  clear hl hpl
  go_enter Try.func3, Try.ntmps3
  go_wp2_with fail
  refine HNew.out.mono ?_
  rintro e w1 ⟨rfl, hn⟩
  have HP0 := Lib.hid (pls_start (ext_refl w) ⟨rfl, hn⟩)
  clear hn HNew
  go_upto_region 2 with fail
  obtain ⟨m, hm⟩ : ∃ b, w.heap.size = b := ⟨_, rfl⟩
  obtain ⟨mr, hmr⟩ : ∃ b, w1.heap.size = b := ⟨_, rfl⟩
  obtain ⟨w2, hw2⟩ : ∃ W, w1.alloc (.cells #[.int .i64 me, .slice none 0 0] 28) = W := ⟨_, rfl⟩
  rw [hm, hmr, hw2] at HP0
  rw [hm, hmr, hw2]
  clear hm hmr hw2
  go_wp2_with fail
  go_loopw [20] (fun v20 wr => ∃ (q : Nat) (rest : List Int), v20 = .int .i64 q ∧ q ≤ l.length ∧ q ≤ 60 ∧ rest.length ≤ 64 ∧ Hid (PlS w m mr me rest rest wr)) (fun v20 _ => l.length - (intOf v20).toNat)
  case atStart => exact ⟨0, [], rfl, by omega, by omega, by simp, HP0⟩
  case round =>
    clear HP0
    obtain ⟨q, rest, rfl, hq, hq60, hrest, HP⟩ := hrel
    have HB := Lib.hid HP.out.below
    by_cases hql : q < l.length
    · obtain ⟨c, hqc⟩ : ∃ c, l[q]? = some c := ⟨_, List.getElem?_eq_getElem hql⟩
      rcases HPl.out with h0 | ⟨b, o, rfl, hlt, hc⟩
      · rw [h0] at hql; simp at hql
      obtain ⟨u0, u1, hc0, hc1, hcs, rfl, hd0, hd1⟩ := hc q c hqc
      have a0 : wr.cell? ⟨b, o + q * 2, none⟩ = some u0 := (HB.out.cell (p := ⟨b, _, none⟩) hlt).trans hc0
      have a1 : wr.cell? ⟨b, o + q * 2 + 1, none⟩ = some (.int .u64 c.d) := (HB.out.cell (p := ⟨b, _, none⟩) hlt).trans hc1
      obtain ⟨pc, cc, rfl, _⟩ := hcs.1.form
      have HCs := Lib.hid hcs
      have hqd : decide ((q : Int) < (l.length : Int)) = true := by simp; omega
      obtain ⟨cp, hcp⟩ : ∃ P, c.l = P := ⟨_, rfl⟩
      obtain ⟨cd, hcd⟩ : ∃ P, c.d = P := ⟨_, rfl⟩
      rw [hcp] at HCs a0
      rw [hcd] at a1 hd0 hd1
      clear hc hqc hc0 hc1 hcs hcp hcd
      go_upto_region 7 with fail
      obtain ⟨tb, htb⟩ : ∃ b, wr.heap.size = b := ⟨_, rfl⟩
      obtain ⟨W0, hW0⟩ : ∃ W, wr.alloc (.cells #[.slice pc cp.length cc, .int .u64 cd] 31) = W := ⟨_, rfl⟩
      have HP0 : Hid (PlS w m mr me rest rest W0) := Lib.hid (by rw [← hW0]; exact HP.out.later ⟨_, ext_alloc (ext_refl wr) _⟩)
      have HPre : Hid (PlS w m mr me rest rest wr) := HP
      have hB0 : Below wr.heap.size wr W0 := by rw [← hW0]; exact ext_alloc (ext_refl wr) _
      have hobj : W0.heap[tb]? = some (.cells #[.slice pc cp.length cc, .int .u64 cd] 31 (0, 0)) := by rw [← hW0, ← htb]; exact heap_alloc_new wr _
      have t0 : W0.cell? ⟨tb, 0, none⟩ = some (.slice pc cp.length cc) := by simp [World.cell?, hobj]
      have t1 : W0.cell? ⟨tb, 1, none⟩ = some (.int .u64 cd) := by simp [World.cell?, hobj]
      have htl : tb < W0.heap.size := (Array.getElem?_eq_some_iff.1 hobj).1
      have HSrc : Hid (∀ W, Below w.heap.size w W → SrcI W (.slice pc cp.length cc) cp) := Lib.hid fun W h => HCs.out.below h
      have HOb := Lib.hid hobj
      have HB0 := Lib.hid hB0
      have htbe : wr.heap.size = tb := htb
      rw [htb, hW0]
      have HTb := Lib.hid htb
      clear hW0 HP a0 a1 hobj hB0 htb htbe
      by_cases hq6 : q = 60
      · subst hq6
        have HBe := Lib.hid HP0.out.below
        go_wp2_with fail
        refine Gives.mono' (HAw.out _) ?_
        intro z
        go_wp2_with fail
        go_ret
        exact ⟨rfl, Later.ex (below_later HBe.out HBe.out.size z)⟩
      by_cases hcl : 100 < cp.length
      · have g6 : decide ((60 : Int) ≤ (q : Int)) = false := by simp; omega
        have g7 : decide ((100 : Int) < (cp.length : Int)) = true := by simp; omega
        have HBe := Lib.hid HP0.out.below
        go_wp2_with fail
        refine Gives.mono' (HAw.out _) ?_
        intro z
        go_wp2_with fail
        go_ret
        exact ⟨rfl, Later.ex (below_later HBe.out HBe.out.size z)⟩
      · have g6 : decide ((60 : Int) ≤ (q : Int)) = false := by simp; omega
        have g7 : decide ((100 : Int) < (cp.length : Int)) = false := by simp; omega
        have hcb : cp.length * 8 ≤ 140737488351232 := by omega
        go_upto_region 8 with fail
        obtain ⟨Msh, hMsh⟩ : ∃ M, shuf cp cd = M := ⟨_, rfl⟩
        obtain ⟨Mso, hMso⟩ : ∃ M, some' cp k cd = M := ⟨_, rfl⟩
        have hsh64 : Msh.length ≤ 64 := by rw [← hMsh, shuf_len]; omega
        have hso64 : Mso.length ≤ 64 := by rw [← hMso]; exact some_len _ _ _
        have HShP : Hid (∀ W, Below w.heap.size w W → Calls Try.prog 11 #[.slice pc cp.length cc, .int .u64 cd] W fun e W' => ∃ v, e = .returned v ∧ IEnd Msh W v W') := Lib.hid fun W h => by rw [← hMsh]; exact ishuf_of (proShuf_any _ _ _ _ (HSrc.out W h) hcb hd0 hd1)
        have HShR : Hid (∀ W, Below w.heap.size w W → Calls Try.prog 12 #[.slice pc cp.length cc, .int .u64 cd] W fun e W' => ∃ v, e = .returned v ∧ IEnd Msh W v W') := Lib.hid fun W h => by rw [← hMsh]; exact ishuf_of (refShuf_any _ _ _ _ (HSrc.out W h) hcb hd0 hd1)
        have HSoP : Hid (∀ W, Below w.heap.size w W → Calls Try.prog 13 #[.slice pc cp.length cc, .int .i64 k, .int .u64 cd] W fun e W' => ∃ v, e = .returned v ∧ IEnd Mso W v W') := Lib.hid fun W h => by rw [← hMso]; exact isome_of (proSome_any _ _ _ _ _ (HSrc.out W h) hcb hd0 hd1)
        have HSoR : Hid (∀ W, Below w.heap.size w W → Calls Try.prog 14 #[.slice pc cp.length cc, .int .i64 k, .int .u64 cd] W fun e W' => ∃ v, e = .returned v ∧ IEnd Mso W v W') := Lib.hid fun W h => by rw [← hMso]; exact isome_of (refSome_any _ _ _ _ _ (HSrc.out W h) hcb hd0 hd1)
        have HBw := Lib.hid (ext_drew (ext_refl W0))
        have HBa : Hid (Below w.heap.size w W0.drew) := Lib.hid (HP0.out.below.trans (HBw.out.mono HP0.out.below.size))
        clear hMsh hMso
        · refine wp_region_greedy (n := 28) (fresh := Array.replicate 28 false) (GK fun k => k < W0.heap.size) (by kernel_rfl) rfl rfl ?_
          refine wpAnyK_batch [0, 1, 2, 3, 5, 6, 7, 8] 20 rfl (by kernel_rfl) (by kernel_rfl) rfl (by simp only [pickL, nthL, List.cons_append, List.nil_append]; rfl) ?_
          repeat (go_big_quiet_step (fail))
          refine wpQuiet_nil ?_
          refine wpAnyG_call2 (i := 4) (d := some 37) (v0 := .slice pc cp.length cc) (v1 := .int .u64 cd) (R := IEnd Msh W0.drew) (by kernel_rfl) rfl (by rfl) rfl Try.call11 (by rfl) (by rfl) (HShP.out _ HBa.out) (fun _ _ ⟨_, _, _, _, hb⟩ => GK.of_below hb fun k hk => hk) rfl ?_
          rintro _ w3 ⟨p3, c3, rfl, hi3, hb3⟩
          have HI3 := Lib.hid hi3
          have HZ3 := Lib.hid (HBw.out.trans hb3)
          have HB3 := Lib.hid (HBa.out.trans (hb3.mono HBa.out.size))
          clear hi3 hb3
          simp only [Act.put, List.setIfInBounds_toArray, List.set_cons_succ, List.set_cons_zero]
          refine wpAnyG_call2 (i := 9) (d := some 42) (v0 := .slice pc cp.length cc) (v1 := .int .u64 cd) (R := IEnd Msh w3) (by kernel_rfl) rfl (by rfl) rfl Try.call12 (by rfl) (by rfl) (HShR.out _ HB3.out) (fun _ _ ⟨_, _, _, _, hb⟩ => GK.of_below hb fun k hk => Nat.lt_of_lt_of_le hk HZ3.out.size) rfl ?_
          rintro _ w4 ⟨p4, c4, rfl, hi4, hb4⟩
          have HI4 := Lib.hid hi4
          have HZ4 := Lib.hid (HZ3.out.trans (hb4.mono HZ3.out.size))
          have HB4 := Lib.hid (HB3.out.trans (hb4.mono HB3.out.size))
          have HI34 := Lib.hid (HI3.out.below hb4)
          clear hi4 hb4
          simp only [Act.put, List.setIfInBounds_toArray, List.set_cons_succ, List.set_cons_zero]
          refine wpAnyG_call2 (i := 10) (d := some 43) (v0 := .slice p3 Msh.length c3) (v1 := .slice p4 Msh.length c4) (R := BEnd w4) (by kernel_rfl) rfl (by rfl) rfl Try.call10 (by rfl) (by rfl) (bend_of (sameI_any _ _ Msh _ HI34.out HI4.out (by omega))) (fun _ _ ⟨_, hb⟩ => GK.of_below hb fun k hk => Nat.lt_of_lt_of_le hk HZ4.out.size) rfl ?_
          rintro _ w5 ⟨rfl, hb5⟩
          have HZ5 := Lib.hid (HZ4.out.trans (hb5.mono HZ4.out.size))
          have HB5 := Lib.hid (HB4.out.trans (hb5.mono HB4.out.size))
          clear hb5
          simp only [Act.put, List.setIfInBounds_toArray, List.set_cons_succ, List.set_cons_zero]
          have s0 := (HZ5.out.cell (p := ⟨tb, 0, none⟩) htl).trans t0
          have s1 := (HZ5.out.cell (p := ⟨tb, 1, none⟩) htl).trans t1
          clear HI3 HI34 HI4 HShP HShR HZ3 HZ4 HB3 HB4
          refine wpAnyK_batch [11, 12, 13, 14, 15, 16, 17, 19, 20, 21, 22, 23] 5 rfl (by kernel_rfl) (by kernel_rfl) rfl (by simp only [pickL, nthL, List.cons_append, List.nil_append]; rfl) ?_
          repeat (go_big_quiet_step (fail))
          refine wpQuiet_nil ?_
          clear s0 s1
          refine wpAnyG_call3 (i := 18) (d := some 51) (v0 := .slice pc cp.length cc) (v1 := .int .i64 k) (v2 := .int .u64 cd) (R := IEnd Mso w5) (by kernel_rfl) rfl (by rfl) rfl Try.call13 (by rfl) (by rfl) (by rfl) (HSoP.out _ HB5.out) (fun _ _ ⟨_, _, _, _, hb⟩ => GK.of_below hb fun k hk => Nat.lt_of_lt_of_le hk HZ5.out.size) rfl ?_
          rintro _ w6 ⟨p6, c6, rfl, hi6, hb6⟩
          have HI6 := Lib.hid hi6
          have HZ6 := Lib.hid (HZ5.out.trans (hb6.mono HZ5.out.size))
          have HB6 := Lib.hid (HB5.out.trans (hb6.mono HB5.out.size))
          clear hi6 hb6
          simp only [Act.put, List.setIfInBounds_toArray, List.set_cons_succ, List.set_cons_zero]
          refine wpAnyG_call3 (i := 24) (d := some 57) (v0 := .slice pc cp.length cc) (v1 := .int .i64 k) (v2 := .int .u64 cd) (R := IEnd Mso w6) (by kernel_rfl) rfl (by rfl) rfl Try.call14 (by rfl) (by rfl) (by rfl) (HSoR.out _ HB6.out) (fun _ _ ⟨_, _, _, _, hb⟩ => GK.of_below hb fun k hk => Nat.lt_of_lt_of_le hk HZ6.out.size) rfl ?_
          rintro _ w7 ⟨p7, c7, rfl, hi7, hb7⟩
          have HI7 := Lib.hid hi7
          have HZ7 := Lib.hid (HZ6.out.trans (hb7.mono HZ6.out.size))
          have HB7 := Lib.hid (HB6.out.trans (hb7.mono HB6.out.size))
          have HI67 := Lib.hid (HI6.out.below hb7)
          clear hi7 hb7
          simp only [Act.put, List.setIfInBounds_toArray, List.set_cons_succ, List.set_cons_zero]
          refine wpAnyG_call2 (i := 25) (d := some 58) (v0 := .slice p6 Mso.length c6) (v1 := .slice p7 Mso.length c7) (R := BEnd w7) (by kernel_rfl) rfl (by rfl) rfl Try.call10 (by rfl) (by rfl) (bend_of (sameI_any _ _ Mso _ HI67.out HI7.out (by omega))) (fun _ _ ⟨_, hb⟩ => GK.of_below hb fun k hk => Nat.lt_of_lt_of_le hk HZ7.out.size) rfl ?_
          rintro _ w8 ⟨rfl, hb8⟩
          have HZ8 := Lib.hid (HZ7.out.trans (hb8.mono HZ7.out.size))
          have HB8 := Lib.hid (HB7.out.trans (hb8.mono HB7.out.size))
          clear hb8
          simp only [Act.put, List.setIfInBounds_toArray, List.set_cons_succ, List.set_cons_zero]
          refine wpAnyK_batch [26, 27] 0 rfl (by kernel_rfl) (by kernel_rfl) rfl (by simp only [pickL, nthL, List.cons_append, List.nil_append]; rfl) ?_
          repeat (go_big_quiet_step (fail))
          refine wpQuiet_nil ?_
          refine wpAnyG_end (by kernel_rfl) ?_
          have HP8 : Hid (PlS w m mr me rest rest w8) := Lib.hid (HP0.out.later ⟨w8, HZ8.out⟩)
          have HObs : Hid (w8.heap[tb]? = some (.cells #[.slice pc cp.length cc, .int .u64 cd] 31 (0, 0))) := Lib.hid ((HZ8.out.block tb htl).trans HOb.out)
          have HTw : Hid (∀ H H', PlAt w m mr me rest rest H H' wr → ¬ H tb ∧ ¬ H' tb) := Lib.hid fun H H' h => ⟨fun e => by have := h.lt.1 tb e; have := HTb.out; omega, fun e => by have := h.lt.2 tb e; have := HTb.out; omega⟩
          have HBig : Hid (Below wr.heap.size wr w8) := Lib.hid (HB0.out.trans (HZ8.out.mono HB0.out.size))
          clear HI6 HI67 HI7 HSoP HSoR HZ5 HZ6 HZ7 HB5 HB6 HB7 HZ8 t0 t1 htl HP0 HB0 HOb HBw HBa HB HTb
          obtain ⟨x, R', hx⟩ : ∃ x r, nextOf me rest cp cd = (x, r) := ⟨_, _, rfl⟩
          have hR' : R'.length ≤ 64 := by have := nextOf_len me rest cp cd hrest; rw [hx] at this; exact this
          obtain ⟨H, H', hpa⟩ := HPre.out
          obtain ⟨nH, nH'⟩ := HTw.out H H' hpa
          have h8 : PlAt w m mr me rest rest H H' w8.drew := (hpa.later ⟨w8, HBig.out⟩).later ⟨w8.drew, ext_drew (ext_refl w8)⟩
          have hnA := nextA_any h8 cp cd (.slice pc cp.length cc) (by omega) (HSrc.out _ h8.2.2.2.2.2).1 hcb hd0 hd1
          have HNB : Hid (∀ W H1, PlAt w m mr me R' rest H1 H' W → (∀ k, Others H H' w8.drew k → k < W.heap.size ∧ ¬ H' k) → Calls Try.prog 16 #[.pointer (some ⟨mr, 0, none⟩), .slice pc cp.length cc, .int .u64 cd] W fun e W' => ∃ v, e = .returned v ∧ (v = .int .i64 x ∧ PlS w m mr me R' R' W' ∧ GK (Others H H' w8.drew) W W')) := Lib.hid fun W H1 h hS => by
            have hb := nextB_any h hS cp cd (.slice pc cp.length cc) (by omega) (HSrc.out _ h.2.2.2.2.2).1 hcb hd0 hd1
            unfold NextB at hb
            rw [hx] at hb
            exact hb
          unfold NextA at hnA
          rw [hx] at hnA
          have HNA := Lib.hid hnA
          have t0 : w8.cell? ⟨tb, 0, none⟩ = some (.slice pc cp.length cc) := by simp [World.cell?, HObs.out]
          have t1 : w8.cell? ⟨tb, 1, none⟩ = some (.int .u64 cd) := by simp [World.cell?, HObs.out]
          have htl : tb < w8.heap.size := (Array.getElem?_eq_some_iff.1 HObs.out).1
          have hS : Others H H' w8.drew tb := ⟨htl, nH, nH'⟩
          clear hnA h8 hpa hx nH nH' HPre HObs HTw HBig
          go_upto_region 10 with fail
          refine wp_region_greedy (n := 23) (fresh := Array.replicate 23 false) (GK (Others H H' w8.drew)) (by kernel_rfl) rfl rfl ?_
          refine wpAnyK_batch [0, 1, 2, 3, 4, 6, 7, 8, 9, 10] 13 rfl (by kernel_rfl) (by kernel_rfl) rfl (by simp only [pickL, nthL, List.cons_append, List.nil_append]; rfl) ?_
          repeat (go_big_quiet_step (fail))
          refine wpQuiet_nil ?_
          refine wpAnyG_call3 (i := 5) (d := some 66) (v0 := .pointer (some ⟨m, 0, none⟩)) (v1 := .slice pc cp.length cc) (v2 := .int .u64 cd) (R := fun v w' => v = .int .i64 x ∧ (∃ H1, PlAt w m mr me R' rest H1 H' w') ∧ GK (Others H H' w8.drew) w8.drew w') (by kernel_rfl) rfl (by rfl) rfl Try.call15 (by rfl) (by rfl) (by rfl) (HNA.out) (fun _ _ h => h.2.2) rfl ?_
          rintro _ w9 ⟨rfl, hm9, hk9⟩
          have HM9 := Lib.hid hm9
          have HK9 := Lib.hid hk9
          clear hm9 hk9 HNA t0 t1 hS
          simp only [Act.put, List.setIfInBounds_toArray, List.set_cons_succ, List.set_cons_zero]
          refine wpAnyG_call3 (i := 11) (d := some 72) (v0 := .pointer (some ⟨mr, 0, none⟩)) (v1 := .slice pc cp.length cc) (v2 := .int .u64 cd) (R := fun v w' => v = .int .i64 x ∧ PlS w m mr me R' R' w' ∧ GK (Others H H' w8.drew) w9 w') (by kernel_rfl) rfl (by rfl) rfl Try.call16 (by rfl) (by rfl) (by rfl) (by obtain ⟨H1, h9⟩ := HM9.out; exact HNB.out w9 H1 h9 fun k hk => ⟨Nat.lt_of_lt_of_le hk.1 HK9.out.size, hk.2.2⟩) (fun _ _ h => h.2.2) rfl ?_
          rintro _ w10 ⟨rfl, hp10, hk10⟩
          have HP10 := Lib.hid hp10
          have HZ10 : Hid (∀ k, Others H H' w8.drew k → k < w10.heap.size) := Lib.hid fun k hk => Nat.lt_of_lt_of_le hk.1 (Nat.le_trans HK9.out.size hk10.size)
          obtain ⟨pr, cr, er, hir, hlr⟩ := hp10.ref
          have HIr := Lib.hid hir
          clear hp10 hk10 HM9 HK9 HNB hir
          refine wpAnyG_narrow (G' := GK fun k => k < w10.heap.size) (GK.less HZ10.out) _ _ _ _ ?_
          simp only [Act.put, List.setIfInBounds_toArray, List.set_cons_succ, List.set_cons_zero]
          refine wpAnyK_batch [12, 13, 14, 16, 17, 18, 19] 4 rfl (by kernel_rfl) (by kernel_rfl) rfl (by simp only [pickL, nthL, List.cons_append, List.nil_append]; rfl) ?_
          repeat (go_big_quiet_step (fail))
          refine wpQuiet_nil ?_
          refine wpAnyG_call1 (i := 15) (d := some 76) (v0 := .pointer (some ⟨m, 0, none⟩)) (R := IEnd R' w10) (by kernel_rfl) rfl (by rfl) rfl Try.call17 (by rfl) (icopy_of (restA_any HP10.out (by omega))) (fun _ _ ⟨_, _, _, _, hb⟩ => GK.of_below hb fun k hk => hk) rfl ?_
          rintro _ w11 ⟨p11, c11, rfl, hi11, hb11⟩
          have HI11 := Lib.hid hi11
          have HP11 : Hid (PlS w m mr me R' R' w11) := Lib.hid (HP10.out.later ⟨w11, hb11⟩)
          have HIr11 := Lib.hid (HIr.out.below hb11)
          have HZ11 : Hid (w10.heap.size ≤ w11.heap.size) := Lib.hid hb11.size
          clear hi11 hb11 HP10 HIr er hlr
          simp only [Act.put, List.setIfInBounds_toArray, List.set_cons_succ, List.set_cons_zero]
          refine wpAnyG_call2 (i := 20) (d := some 81) (v0 := .slice p11 R'.length c11) (v1 := .slice pr R'.length cr) (R := BEnd w11) (by kernel_rfl) rfl (by rfl) rfl Try.call10 (by rfl) (by rfl) (bend_of (sameI_any _ _ R' _ HI11.out HIr11.out (by omega))) (fun _ _ ⟨_, hb⟩ => GK.of_below hb fun k hk => Nat.lt_of_lt_of_le hk HZ11.out) rfl ?_
          rintro _ w12 ⟨rfl, hb12⟩
          have HP12 : Hid (PlS w m mr me R' R' w12) := Lib.hid (HP11.out.later ⟨w12, hb12⟩)
          clear hb12 HP11 HI11 HIr11
          simp only [Act.put, List.setIfInBounds_toArray, List.set_cons_succ, List.set_cons_zero]
          refine wpAnyK_batch [21, 22] 0 rfl (by kernel_rfl) (by kernel_rfl) rfl (by simp only [pickL, nthL, List.cons_append, List.nil_append]; rfl) ?_
          repeat (go_big_quiet_step (fail))
          refine wpQuiet_nil ?_
          refine wpAnyG_end (by kernel_rfl) ?_
          go_wp2_with fail
          go_roundw
          case rel => exact ⟨q + 1, R', by go_num, by omega, by omega, hR', HP12⟩
          case measure => simp [intOf]; omega
    · obtain rfl : q = l.length := by omega
      go_wp2_with fail
      refine Gives.mono' (HAw.out _) ?_
      intro z
      go_wp2_with fail
      go_ret
      exact ⟨rfl, Later.ex (below_later HB.out HB.out.size z)⟩
end Go.Proofs.Ytfhfhneclplklaa
