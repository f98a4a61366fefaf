/- The landed probe: Next. -/
import Derived.Test.YtfhfhneclplklaaProNext
namespace Go.Proofs.Ytfhfhneclplklaa
open Go Go.RowKit

theorem RowI.tail {W : World} {g o : Nat} {x : Int} {r : List Int} (h : RowI W g o (x :: r)) : RowI W g (o + 1) r :=
  ⟨h.lt, h.fz, fun k y hk => by rw [show o + 1 + k = o + (k + 1) from by omega]; exact h.cell (k + 1) y (by simpa using hk)⟩
theorem RowI.other {W : World} {g o : Nat} {l : List Int} (h : RowI W g o l) {m : Nat} (hne : g ≠ m) (i : Nat) (v : Value) : RowI (W.setCell ⟨m, i, none⟩ v) g o l :=
  h.kept (by simp [World.setCell]) (Below.heap_setCell _ _ _ g hne)
theorem MadeI.row {w0 W : World} {g cap n : Nat} {l : List Int} (h : MadeI w0 W (.slice (some ⟨g, 0, none⟩) n cap) l) (hn : 0 < l.length) : RowI W g 0 l := by
  obtain ⟨g', cap', hv, _, hlt, hfz, hc⟩ := h.open hn
  obtain ⟨hv1, _⟩ := Value.slice.inj hv
  obtain rfl : g = g' := by simpa using hv1
  exact ⟨hlt, hfz, fun k x hk => by rw [Nat.zero_add]; exact hc k x hk⟩
/-- The first one is struck off: the slice from 1 on is stored. -/
theorem ask_done {m : Nat} {self x : Int} {r : List Int} {W : World} {u : Value} {g o cap : Nat} (hm : W.heap[m]? = some (.cells #[.int .i64 self, u] 49 (0, 0))) (hr : RowI W g o (x :: r)) (hcap : r.length + 1 ≤ cap) (hgm : g ≠ m) :
    ProO m self r (W.setCell ⟨m, 1, none⟩ (.slice (if cap = 1 then some ⟨g, o, none⟩ else some ⟨g, o + 1, none⟩) r.length (cap - 1))) (fun k => k = m ∨ (r ≠ [] ∧ k = g)) := by
  refine ⟨_, by rw [heap_setCell_same _ _ _ _ _ _ hm]; rfl, ?_, ?_, fun k => ?_⟩
  · by_cases hr0 : r = []
    · subst hr0
      exact ⟨⟨.inl ⟨rfl, _, _, rfl⟩, _, _, rfl, by simp, fun h => by split at h <;> cases h⟩, fun h => absurd rfl h⟩
    · have hl : 0 < r.length := List.length_pos_iff.2 hr0
      rw [if_neg (by omega)]
      have ht := hr.tail.other (m := m) hgm 1 (.slice (some ⟨g, o + 1, none⟩) r.length (cap - 1))
      exact ⟨⟨ht.ints, _, _, rfl, by omega, fun h => by cases h⟩, fun _ => ⟨g, o + 1, cap - 1, rfl, ht⟩⟩
  · rintro ⟨hr0, o', n, c, e⟩
    have hl : 0 < r.length := List.length_pos_iff.2 hr0
    rw [if_neg (by omega)] at e
    obtain ⟨e1, _⟩ := Value.slice.inj e
    simp only [Option.some.injEq, Addr.mk.injEq] at e1
    exact hgm e1.1
  · by_cases hr0 : r = []
    · simp [hr0, OfRow]
    · have hl : 0 < r.length := List.length_pos_iff.2 hr0
      rw [if_neg (by omega)]
      simp [hr0, OfRow, eq_comm]

theorem MadeI.kept {w0 W W' : World} {v : Value} {l : List Int} {F : Nat → Prop} (h : MadeI w0 W v l) (hf : Fr F W W') (hF : ∀ k, F k → k < w0.heap.size) : SrcI W' v l := by
  have hr : W'.ownsRow w0.heap.size 3 1 v l.length (cellsI l) := row_keeps h.1 fun g hg => hf.block g (h.1.lt g hg).2 fun e => by
    have := hF g e
    have := (h.1.lt g hg).1
    omega
  exact ⟨intsAt_of_own hr, h.src.2⟩
def AskEnd (m : Nat) (self : Int) (rest peers : List Int) (draw : Int) (H : Nat → Prop) (w : World) (e : Ending) (w' : World) : Prop := e = .returned (.int .i64 (nextOf self rest peers draw).1) ∧ PEnd m self (nextOf self rest peers draw).2 H w w'

set_option maxHeartbeats 4000000 in
set_option maxRecDepth 100000 in
theorem nextP_any (m : Nat) (self : Int) (rest peers : List Int) (draw : Int) (v : Value) (w : World) (H : Nat → Prop) (h : ProO m self rest w H) (hrest : rest.length ≤ 100) (hs : IntsAt w v peers) (hl : peers.length * 8 ≤ 140737488351232) (h0 : 0 ≤ draw) (h1 : draw < 18446744073709551616) :
    Calls Try.prog 15 #[.pointer (some ⟨m, 0, none⟩), v, .int .u64 draw] w (AskEnd m self rest peers draw H w) := by
  have HN := Lib.hid (nodesBut_any v peers self w hs hl)
  have HO := Lib.hid h
  obtain ⟨vo, hq, hro, hno, hH⟩ := h
  have HRo := Lib.hid hro
  have HNo := Lib.hid hno
  have HH := Lib.hid hH
  have hlt := (Array.getElem?_eq_some_iff.1 hq).1
  have e0 : w.cell? ⟨m, 0, none⟩ = some (.int .i64 self) := by simp [World.cell?, hq]
  have HQ := Lib.hid hq
  obtain ⟨pv, cv, rfl, _⟩ := hs.form
  obtain ⟨P, hP⟩ : ∃ P, peersOf peers self = P := ⟨_, rfl⟩
  have hP8 : P.length ≤ 8 := by rw [← hP]; exact peersOf_len _ _
  have HPe := Lib.hid hP
  unfold PeersEnd at HN
  rw [hP] at HN
  clear hs hq hro hno hH hP
  go_enter Try.func15, Try.ntmps15
  go_wp2_with fail
  refine HN.out.mono ?_
  rintro e w1 ⟨u, rfl, hmade⟩
  obtain ⟨p1, c1, rfl⟩ := ownsRow_form hmade.1
  have HM1 := Lib.hid hmade
  clear hmade HN e0
  go_upto_region 4 with fail
  obtain ⟨b, hb⟩ : ∃ b, w1.heap.size = b := ⟨_, rfl⟩
  obtain ⟨w2, hw2⟩ : ∃ W, w1.alloc (.cells #[.slice p1 P.length c1] 26) = W := ⟨_, rfl⟩
  have HM2 : Hid (MadeI w w2 (.slice p1 P.length c1) P) := Lib.hid (by rw [← hw2]; exact HM1.out.later ⟨_, ext_alloc (ext_refl w1) _⟩)
  have hbw : w.heap.size ≤ b := by rw [← hb]; exact HM1.out.2.size
  have hb2 : b < w2.heap.size := by rw [← hb, ← hw2]; simp
  have hc2 : w2.cell? ⟨b, 0, none⟩ = some (.slice p1 P.length c1) := by
    rw [← hb, ← hw2]
    unfold World.cell?
    rw [heap_alloc_new]
    rfl
  have hq2 : w2.heap[m]? = some (.cells #[.int .i64 self, vo] 49 (0, 0)) := (HM2.out.2.block m hlt).trans HQ.out
  rw [hb, hw2]
  clear hb hw2 HM1 HQ
  have e1 : w2.cell? ⟨m, 1, none⟩ = some vo := by simp [World.cell?, hq2]
  have hl2 : m < w2.heap.size := Nat.lt_of_lt_of_le hlt HM2.out.2.size
  have hmb : m ≠ b := by omega
  by_cases hP0 : P.length = 0
  · have hPn : P = [] := List.eq_nil_of_length_eq_zero hP0
    have HR : Hid (nextOf self rest peers draw = (-1, rest)) := Lib.hid (by unfold nextOf; rw [HPe.out, if_pos hPn])
    have HEnd := Lib.hid (show PEnd m self rest H w w2 from ⟨H, (proO_owns m self rest).kept w w2 H HO.out HM2.out.2.size fun k hk => HM2.out.2.block k ((proO_owns m self rest).lt w H HO.out k hk), Fr.of_below HM2.out.2, fun k hk => .inl hk⟩)
    rw [hP0] at hc2
    clear hq2 e1
    go_wp2_with fail
    go_ret
    exact ⟨by rw [HR.out]; rfl, by rw [HR.out]; exact HEnd.out⟩
  · have gP : (((P.length : Nat) : Int) == 0) = false := by rw [beq_eq_false_iff_ne]; omega
    have HOld : Hid (∀ k, OfRow rest vo k → k < w.heap.size) := Lib.hid fun k hk => HRo.out.lt hk
    have HRo2 : Hid (RowV w2 vo rest) := Lib.hid (HRo.out.later ⟨w2, HM2.out.2⟩)
    have HG := Lib.hid (del_any b (.slice p1 P.length c1) P vo rest w2 hb2 (fun W' hf => ⟨by
      have hbk := hf.block b hb2 fun e => by have := HOld.out b e; omega
      simpa only [World.cell?, hbk] using hc2, (HM2.out.kept hf fun k hk => HOld.out k hk).1⟩) (by omega) HRo2.out (by omega))
    obtain ⟨po, co, hvo, _⟩ := HRo.out.1.1.form
    subst hvo
    go_wp2_with fail
    refine HG.out.mono ?_
    rintro e w3 ⟨v3, rfl, hr3, ho3, hf3⟩
    have HGone := HNo.out
    have hq3 := (hf3.block m hl2 HGone).trans hq2
    have hl3 : m < w3.heap.size := Nat.lt_of_lt_of_le hl2 hf3.size
    have m1 : w3.cell? ⟨m, 1, none⟩ = some (.slice po rest.length co) := by simp [World.cell?, hq3]
    have m2 : w3.frozen? ⟨m, 1, none⟩ = false := by simp [World.frozen?, hq3]
    have hc3 : w3.cell? ⟨b, 0, none⟩ = some (.slice p1 P.length c1) := by
      have hbk := hf3.block b hb2 fun e => by have := HOld.out b e; omega
      simpa only [World.cell?, hbk] using hc2
    have HF23 : Hid (Fr H w2 w3) := Lib.hid ⟨hf3.os, hf3.tape, hf3.output, hf3.size, fun k hk hn => hf3.block k hk fun e => hn ((HH.out k).2 (.inr e))⟩
    have HHlt : Hid (∀ k, H k → k < w.heap.size) := Lib.hid fun k hk => (proO_owns m self rest).lt w H HO.out k hk
    obtain ⟨pf, cf, hvf, _⟩ := hr3.1.1.form
    subst hvf
    obtain ⟨fl, hfl⟩ : ∃ fl, (rest.filter fun x => P.contains x) = fl := ⟨_, rfl⟩
    have hfl100 : fl.length ≤ 100 := by rw [← hfl]; exact Nat.le_trans (List.length_filter_le _ _) hrest
    have HFl := Lib.hid hfl
    rw [hfl] at hr3 ho3 ⊢
    have HR3 := Lib.hid hr3
    have HO3 := Lib.hid ho3
    have HF3 : Hid (Fr H w w3) := Lib.hid ((Fr.of_below HM2.out.2 : Fr H w w2).trans hf3 fun k hk => .inl ((HH.out k).2 (.inr hk)))
    have HQ3 := Lib.hid hq3
    have hb3 : b < w3.heap.size := Nat.lt_of_lt_of_le hb2 hf3.size
    clear hfl hr3 ho3 hf3 hq3 hq2 e1 hc2 hl2 HGone HG HRo2
    go_upto_region 7 with fail
    obtain ⟨w4, hw4⟩ : ∃ W, w3.setCell ⟨m, 1, none⟩ (.slice pf fl.length cf) = W := ⟨_, rfl⟩
    have hq4 : w4.heap[m]? = some (.cells #[.int .i64 self, .slice pf fl.length cf] 49 (0, 0)) := by rw [← hw4, heap_setCell_same _ _ _ _ _ _ HQ3.out]; rfl
    have hs4 : w4.heap.size = w3.heap.size := by rw [← hw4]; simp [World.setCell]
    have hk4 : ∀ k, k ≠ m → w4.heap[k]? = w3.heap[k]? := fun k hk => by rw [← hw4]; exact Below.heap_setCell _ _ _ k hk
    have HR4 : Hid (RowV w4 (.slice pf fl.length cf) fl) := Lib.hid (HR3.out.kept (by omega) fun k hk => hk4 k fun e => by subst e; exact HNo.out (HO3.out k hk))
    have HF4 : Hid (Fr H w w4) := Lib.hid (by rw [← hw4]; exact HF3.out.set m 1 _ (.inl ((HH.out m).2 (.inl rfl))))
    have hc4 : w4.cell? ⟨b, 0, none⟩ = some (.slice p1 P.length c1) := by
      have hbk := hk4 b (by omega)
      simpa only [World.cell?, hbk] using hc3
    have HPm : Hid (SrcI w4 (.slice p1 P.length c1) P) := Lib.hid (HM2.out.kept (F := H) (by rw [← hw4]; exact HF23.out.set m 1 _ (.inl ((HH.out m).2 (.inl rfl)))) HHlt.out)
    have HW4 : Hid (∀ k, OfRow fl (.slice pf fl.length cf) k → k ≠ m) := Lib.hid fun k hk e => by subst e; exact HNo.out (HO3.out k hk)
    rw [hw4]
    have hl4 : m < w4.heap.size := by omega
    have hb4 : b < w4.heap.size := by omega
    have n1 : w4.cell? ⟨m, 1, none⟩ = some (.slice pf fl.length cf) := by simp [World.cell?, hq4]
    have n2 : w4.frozen? ⟨m, 1, none⟩ = false := by simp [World.frozen?, hq4]
    have HQ4 := Lib.hid hq4
    -- from a row whose first one is struck off
    have HFin : Hid (∀ (W : World) (x : Int) (r : List Int) (u : Value) (g o cap : Nat), leftNow rest P draw = x :: r → Fr H w W → W.heap[m]? = some (.cells #[.int .i64 self, u] 49 (0, 0)) → RowI W g o (x :: r) → r.length + 1 ≤ cap → g ≠ m → (H g ∨ w.heap.size ≤ g) →
        (nextOf self rest peers draw).1 = x ∧ PEnd m self (nextOf self rest peers draw).2 H w (W.setCell ⟨m, 1, none⟩ (.slice (if cap = 1 then some ⟨g, o, none⟩ else some ⟨g, o + 1, none⟩) r.length (cap - 1)))) := Lib.hid fun W x r u g o cap hx hf hm hr hcap hgm hg => by
      have hne : P ≠ [] := fun e => by rw [e] at hP0; simp at hP0
      have e : nextOf self rest peers draw = (x, r) := by unfold nextOf; rw [HPe.out, if_neg hne, hx]; rfl
      rw [e]
      refine ⟨rfl, _, ask_done hm hr hcap hgm, hf.set m 1 _ (.inl ((HH.out m).2 (.inl rfl))), fun k hk => ?_⟩
      rcases hk with rfl | ⟨_, rfl⟩
      · exact .inl ((HH.out k).2 (.inl rfl))
      · exact hg
    clear hw4 HR3 HQ3 HF3 hc3 m1 m2 HF23 HM2 hq4 hk4 hs4 hl3 hb3
    cases fl with
    | nil =>
      have hne : P ≠ [] := fun e => by rw [e] at hP0; simp at hP0
      have hLN : leftNow rest P draw = shuf P draw := by unfold leftNow; rw [HFl.out]
      obtain ⟨x, r, hxr⟩ : ∃ x r, shuf P draw = x :: r := by
        cases hs : shuf P draw with
        | nil => exact absurd (hLN.trans hs) (leftNow_ne hne)
        | cons x r => exact ⟨x, r, rfl⟩
      have hr8 : r.length ≤ 64 := by have := shuf_len P draw; rw [hxr, List.length_cons] at this; omega
      have HSh := Lib.hid (proShuf_any (.slice p1 P.length c1) P draw w4 HPm.out (by omega) h0 h1)
      unfold ShufEnd at HSh
      rw [hxr] at HSh
      have HFin' := Lib.hid (fun W u g o cap => HFin.out W x r u g o cap (hLN.trans hxr))
      rw [List.length_nil] at n1 ⊢
      clear hLN hxr HFin
      go_wp2_with fail
      refine HSh.out.mono ?_
      rintro e w5 ⟨u5, rfl, hm5⟩
      obtain ⟨g, cap, rfl, -⟩ := hm5.open (by simp)
      have hr5 := hm5.row (by simp)
      have hge := (hm5.1.lt g rfl).1
      have hcap : r.length + 1 ≤ cap := by
        rcases hm5.1.2 with ⟨e1, e2⟩ | ⟨g', cap', cur, hv, _, _, hnc, _⟩
        · simp at e1
        · obtain ⟨_, _, rfl⟩ := Value.slice.inj hv
          simpa using hnc
      have hq5 := (hm5.2.block m hl4).trans HQ4.out
      have m1 : w5.cell? ⟨m, 1, none⟩ = some (.slice pf 0 cf) := by simp [World.cell?, hq5]
      have m2 : w5.frozen? ⟨m, 1, none⟩ = false := by simp [World.frozen?, hq5]
      have hl5 : m < w5.heap.size := Nat.lt_of_lt_of_le hl4 hm5.2.size
      have HF5 : Hid (Fr H w w5) := Lib.hid (HF4.out.later ⟨w5, hm5.2⟩)
      have HQ5 := Lib.hid hq5
      have HR5 := Lib.hid hr5
      have hgm : g ≠ m := by omega
      have hgw : w.heap.size ≤ g := by have := HF4.out.size; omega
      rw [List.length_cons]
      clear hm5 hq5 hr5 n1 n2 hge
      go_upto_region 9 with fail
      obtain ⟨w6, hw6⟩ : ∃ W, w5.setCell ⟨m, 1, none⟩ (.slice (some ⟨g, 0, none⟩) (r.length + 1) cap) = W := ⟨_, rfl⟩
      have HQz : Hid (w6.heap[m]? = some (.cells #[.int .i64 self, .slice (some ⟨g, 0, none⟩) (r.length + 1) cap] 49 (0, 0))) := Lib.hid (by rw [← hw6, heap_setCell_same _ _ _ _ _ _ HQ5.out]; rfl)
      have HRz : Hid (RowI w6 g 0 (x :: r)) := Lib.hid (by rw [← hw6]; exact HR5.out.other hgm _ _)
      have HFz : Hid (Fr H w w6) := Lib.hid (by rw [← hw6]; exact HF5.out.set m 1 _ (.inl ((HH.out m).2 (.inl rfl))))
      have hl6 : m < w6.heap.size := by rw [← hw6]; simpa [World.setCell] using hl5
      rw [hw6]
      have HF1 := Lib.hid (HFin'.out w6 _ g 0 cap HFz.out HQz.out HRz.out hcap hgm (.inr hgw))
      clear hw6 m1 m2
      have k1 : w6.cell? ⟨m, 1, none⟩ = some (.slice (some ⟨g, 0, none⟩) (r.length + 1) cap) := by simp [World.cell?, HQz.out]
      have k2 : w6.frozen? ⟨m, 1, none⟩ = false := by simp [World.frozen?, HQz.out]
      have k0 := HRz.out.cell 0 x (by simp)
      rw [Nat.add_zero] at k0
      have kg := HRz.out.lt
      have gr : (((r.length : Nat) : Int) + 1 == 0) = false := by rw [beq_eq_false_iff_ne]; omega
      by_cases hc1 : cap = 1
      · subst hc1
        rw [if_pos rfl, show r.length = 0 from by omega] at HF1
        go_wp2_with fail
        go_ret
        exact ⟨by rw [HF1.out.1]; rfl, HF1.out.2⟩
      · rw [if_neg hc1] at HF1
        go_wp2_with fail
        go_ret
        exact ⟨by rw [HF1.out.1]; rfl, HF1.out.2⟩
    | cons x r =>
      have hLN : leftNow rest P draw = x :: r := by unfold leftNow; rw [HFl.out]
      obtain ⟨g, o, cap, hv, hrow⟩ := HR4.out.2 (by simp)
      obtain ⟨rfl, -, rfl⟩ := Value.slice.inj hv
      have hgm := HW4.out g ⟨by simp, o, _, _, rfl⟩
      have hcap : r.length + 1 ≤ cf := by
        obtain ⟨p', cap', e, h1, _⟩ := HR4.out.1.2
        obtain ⟨_, _, rfl⟩ := Value.slice.inj e
        exact h1
      have HQz := HQ4
      have HRz := Lib.hid hrow
      have hgH : H g := (HH.out g).2 (.inr (HO3.out g ⟨by simp, o, _, _, rfl⟩))
      have HF1 := Lib.hid (HFin.out w4 x r _ g o cf hLN HF4.out HQz.out HRz.out hcap hgm (.inl hgH))
      rw [List.length_cons] at n1 hfl100 HQz ⊢
      clear hLN hv hrow n1 n2
      have k1 : w4.cell? ⟨m, 1, none⟩ = some (.slice (some ⟨g, o, none⟩) (r.length + 1) cf) := by simp [World.cell?, HQz.out]
      go_upto_region 9 with fail
      clear k1
      have k1 : w4.cell? ⟨m, 1, none⟩ = some (.slice (some ⟨g, o, none⟩) (r.length + 1) cf) := by simp [World.cell?, HQz.out]
      have k2 : w4.frozen? ⟨m, 1, none⟩ = false := by simp [World.frozen?, HQz.out]
      have k0 := HRz.out.cell 0 x (by simp)
      rw [Nat.add_zero] at k0
      have kg := HRz.out.lt
      have gr : (((r.length : Nat) : Int) + 1 == 0) = false := by rw [beq_eq_false_iff_ne]; omega
      by_cases hc1 : cf = 1
      · subst hc1
        rw [if_pos rfl, show r.length = 0 from by omega] at HF1
        go_wp2_with fail
        go_ret
        exact ⟨by rw [HF1.out.1]; rfl, HF1.out.2⟩
      · rw [if_neg hc1] at HF1
        go_wp2_with fail
        go_ret
        exact ⟨by rw [HF1.out.1]; rfl, HF1.out.2⟩
end Go.Proofs.Ytfhfhneclplklaa
