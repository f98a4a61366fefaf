/- The reference's Next. -/
import Derived.Test.YtfhfhneclplklaaRefPeers
import Derived.Test.YtfhfhneclplklaaRefSome
namespace Go.Proofs.Ytfhfhneclplklaa
open Go Go.RowKit

/-- The reference's order at block m: who asks, who is left; the blocks that it reaches. -/
def RefO (m : Nat) (self : Int) (rest : List Int) (W : World) (H : Nat → Prop) : Prop :=
  ∃ v, W.heap[m]? = some (.cells #[.int .i64 self, v] 28 (0, 0)) ∧ IntsAt W v rest ∧ (∀ k, H k ↔ k = m ∨ (rest ≠ [] ∧ ∃ o n c, v = .slice (some ⟨k, o, none⟩) n c))
theorem refO_owns (m : Nat) (self : Int) (rest : List Int) : Owns (RefO m self rest) where
  lt W H h k hk := by
    obtain ⟨v, hm, hi, hH⟩ := h
    rcases (hH k).1 hk with rfl | ⟨hne, o, n, c, rfl⟩
    · exact (Array.getElem?_eq_some_iff.1 hm).1
    · rcases hi with ⟨h0, _⟩ | ⟨b, o', cap, he, hlt, _⟩
      · exact absurd h0 hne
      · simp only [Value.slice.injEq, Option.some.injEq, Addr.mk.injEq] at he
        obtain ⟨⟨rfl, _, _⟩, _, _⟩ := he
        exact hlt
  kept W W' H h hs hk := by
    obtain ⟨v, hm, hi, hH⟩ := h
    refine ⟨v, (hk m ((hH m).2 (.inl rfl))).trans hm, ?_, hH⟩
    rcases hi with h0 | ⟨b, o, cap, rfl, hlt, hc⟩
    · exact .inl h0
    · by_cases hne : rest = []
      · subst hne
        exact .inl ⟨rfl, _, _, rfl⟩
      · refine .inr ⟨b, o, cap, rfl, Nat.lt_of_lt_of_le hlt hs, fun k x hx => ?_⟩
        have hb := hk b ((hH b).2 (.inr ⟨hne, _, _, _, rfl⟩))
        have := hc k x hx
        simp only [World.cell?, hb] at this ⊢
        exact this
/-- Behind Next. -/
def ROEnd (m : Nat) (self : Int) (rest : List Int) (H : Nat → Prop) (W W' : World) : Prop := ∃ H', RefO m self rest W' H' ∧ Fr (fun k => k = m) W W' ∧ ∀ k, H' k → H k ∨ W.heap.size ≤ k
theorem MadeI.src {w0 W : World} {v : Value} {l : List Int} (h : MadeI w0 W v l) : SrcI W v l := by
  refine ⟨h.list, ?_⟩
  rcases h.1.2 with ⟨rfl, h0⟩ | ⟨g, cap, cur, rfl, _, _, hnc, _⟩
  · exact ⟨none, 0, by rw [h0], by omega, fun _ => rfl⟩
  · exact ⟨some ⟨g, 0, none⟩, cap, rfl, hnc, fun h => by cases h⟩
theorem filter_hit {P l : List Int} {k : Nat} {x : Int} (hk : l[k]? = some x) (h : P.contains x = true) : (l.take (k + 1)).filter (fun n => P.contains n) = (l.take k).filter (fun n => P.contains n) ++ [x] := by
  rw [List.take_add_one, hk, List.filter_append]
  simp only [Option.toList_some, List.filter_cons, h, if_true, List.filter_nil]
theorem filter_miss {P l : List Int} {k : Nat} {x : Int} (hk : l[k]? = some x) (h : P.contains x = false) : (l.take (k + 1)).filter (fun n => P.contains n) = (l.take k).filter (fun n => P.contains n) := by
  rw [List.take_add_one, hk, List.filter_append]
  simp only [Option.toList_some, List.filter_cons, h, Bool.false_eq_true, if_false, List.filter_nil, List.append_nil]

def NextEnd (m : Nat) (self : Int) (rest peers : List Int) (draw : Int) (H : Nat → Prop) (w : World) (e : Ending) (w' : World) : Prop := e = .returned (.int .i64 (nextOf self rest peers draw).1) ∧ ROEnd m self (nextOf self rest peers draw).2 H w w'

/-- What is left behind the first one: the slice from 1 on. -/
theorem next_done {m : Nat} {self x : Int} {r rest : List Int} {w w3 : World} {H : Nat → Prop} {wb : World} {g cap : Nat} (h : RefO m self rest w H) (hwb : w.heap.size ≤ wb.heap.size) (hb : Below w.heap.size w w3) (hm : MadeI wb w3 (.slice (some ⟨g, 0, none⟩) (r.length + 1) cap) (x :: r)) :
    ROEnd m self r H w (w3.setCell ⟨m, 1, none⟩ (.slice (if cap = 1 then some ⟨g, 0, none⟩ else some ⟨g, 1, none⟩) r.length (cap - 1))) := by
  obtain ⟨v, hq, hi, hH⟩ := h
  have hlt := (Array.getElem?_eq_some_iff.1 hq).1
  have h3 := (hb.block m hlt).trans hq
  have hge := (hm.1.lt g rfl).1
  have hgm : g ≠ m := by omega
  have hop := hm.open (by simp)
  obtain ⟨g', cap', hv, _, hgl, _, hc⟩ := hop
  obtain ⟨hv1, _, rfl⟩ := Value.slice.inj hv
  obtain rfl : g = g' := by simpa using hv1
  have hcap : r.length + 1 ≤ cap := by
    rcases hm.1.2 with ⟨h1, h2⟩ | ⟨g', cap', cur, hv, _, _, hnc, _⟩
    · simp at h1
    · obtain ⟨_, _, rfl⟩ := Value.slice.inj hv
      simpa using hnc
  refine ⟨fun k => k = m ∨ (r ≠ [] ∧ k = g), ⟨_, by rw [heap_setCell_same _ _ _ _ _ _ h3]; rfl, ?_, fun k => ?_⟩, (Fr.of_below hb).set m 1 _ (.inl rfl), fun k hk => ?_⟩
  · by_cases hr : r = []
    · subst hr
      exact .inl ⟨rfl, _, _, rfl⟩
    · have hr1 : 0 < r.length := List.length_pos_iff.2 hr
      rw [if_neg (by omega)]
      refine .inr ⟨g, 1, cap - 1, rfl, by simpa using hgl, fun k y hk => ?_⟩
      rw [World.cell?_setCell_other _ _ _ _ (by intro h; simp only [Addr.mk.injEq] at h; omega)]
      rw [Nat.add_comm]
      exact hc (k + 1) y (by simpa using hk)
  · by_cases hr : r = []
    · simp [hr]
    · have hr1 : 0 < r.length := List.length_pos_iff.2 hr
      rw [if_neg (by omega)]
      simp [hr, eq_comm]
  · rcases hk with rfl | ⟨_, rfl⟩
    · exact .inl ((hH k).2 (.inl rfl))
    · exact .inr (Nat.le_trans hwb hge)

set_option maxHeartbeats 4000000 in
set_option maxRecDepth 100000 in
theorem refNext_any (m : Nat) (self : Int) (rest peers : List Int) (draw : Int) (v : Value) (w : World) (H : Nat → Prop) (h : RefO m self rest w H) (hrest : rest.length ≤ 100) (hs : IntsAt w v peers) (hl : peers.length * 8 ≤ 140737488351232) (h0 : 0 ≤ draw) (h1 : draw < 18446744073709551616) :
    Calls Try.prog 16 #[.pointer (some ⟨m, 0, none⟩), v, .int .u64 draw] w (NextEnd m self rest peers draw H w) := by
  have HP := Lib.hid (refPeers_any v peers self w hs hl)
  have HO := Lib.hid h
  obtain ⟨vo, hq, hio, _⟩ := h
  have hlt := (Array.getElem?_eq_some_iff.1 hq).1
  have e0 : w.cell? ⟨m, 0, none⟩ = some (.int .i64 self) := by simp [World.cell?, hq]
  have HQ := Lib.hid hq
  have HIo := Lib.hid hio
  obtain ⟨pv, cv, rfl, _⟩ := hs.form
  obtain ⟨P, hP⟩ : ∃ P, peersOf peers self = P := ⟨_, rfl⟩
  have hP8 : P.length ≤ 8 := by rw [← hP]; exact peersOf_len _ _
  have HPe := Lib.hid hP
  unfold PeersEnd at HP
  rw [hP] at HP
  clear hs hq hio hP
  go_enter Try.func16, Try.ntmps16
  go_wp2_with fail
  refine HP.out.mono ?_
  rintro e w1 ⟨u, rfl, hmade⟩
  obtain ⟨p1, c1, rfl⟩ := ownsRow_form hmade.1
  have HM1 := Lib.hid hmade
  have hq1 := (hmade.2.block m hlt).trans HQ.out
  have e1 : w1.cell? ⟨m, 1, none⟩ = some vo := by simp [World.cell?, hq1]
  have hl1 : m < w1.heap.size := Nat.lt_of_lt_of_le hlt hmade.2.size
  clear hmade HP e0
  by_cases hP0 : P.length = 0
  · have hPn : P = [] := List.eq_nil_of_length_eq_zero hP0
    have HR : Hid (nextOf self rest peers draw = (-1, rest)) := Lib.hid (by unfold nextOf; rw [HPe.out, if_pos hPn])
    have HEnd := Lib.hid (show ROEnd m self rest H w w1 from ⟨H, (refO_owns m self rest).kept w w1 H HO.out HM1.out.2.size fun k hk => HM1.out.2.block k ((refO_owns m self rest).lt w H HO.out k hk), Fr.of_below HM1.out.2, fun k hk => .inl hk⟩)
    rw [hP0]
    clear hq1 e1
    go_wp2_with fail
    go_ret
    exact ⟨by rw [HR.out]; rfl, by rw [HR.out]; exact HEnd.out⟩
  · have hP1 : 0 < P.length := by omega
    have gP : (((P.length : Nat) : Int) == 0) = false := by rw [beq_eq_false_iff_ne]; omega
    obtain ⟨po, co, hvo, hcell⟩ := (HIo.out.below HM1.out.2).form
    subst hvo
    have HCo := Lib.hid hcell
    clear hq1 hcell
    go_wp2_with fail
    clear e1
    obtain ⟨w2, hw2⟩ : ∃ W, W = w1 := ⟨_, rfl⟩
    subst hw2
    go_loopw [8, 25] (fun v8 v25 wz => ∃ k : Nat, v25 = .int .i64 k ∧ k ≤ rest.length ∧ MadeI w2 wz v8 ((rest.take k).filter fun n => P.contains n)) (fun _ v25 _ => rest.length - (intOf v25).toNat)
    case atStart => exact ⟨0, rfl, by omega, madeI_nil (Below.refl _ _)⟩
    case round =>
      obtain ⟨k, rfl, hk, hmz⟩ := hrel
      have hlen : ((rest.take k).filter fun n => P.contains n).length ≤ 100 := by
        refine Nat.le_trans (List.length_filter_le _ _) ?_
        rw [List.length_take]; omega
      obtain ⟨pz, cz, hvz⟩ := ownsRow_form hmz.1
      obtain ⟨fl, hfl⟩ : ∃ l, ((rest.take k).filter fun n => P.contains n) = l := ⟨_, rfl⟩
      have HFl := Lib.hid hfl
      rw [hfl] at hmz hlen hvz
      have HMz := Lib.hid hmz
      clear hmz hfl
      by_cases hkl : k < rest.length
      · obtain ⟨n, hkc⟩ : ∃ c, rest[k]? = some c := ⟨_, List.getElem?_eq_getElem hkl⟩
        rcases HCo.out with h0 | ⟨b, o, rfl, hbl, hc⟩
        · rw [h0] at hkl; simp at hkl
        have hc0 : wr.cell? ⟨b, o + k, none⟩ = some (.int .i64 n) := (HMz.out.2.cell (p := ⟨b, _, none⟩) hbl).trans (hc k n hkc)
        have hbz : b < wr.heap.size := Nat.lt_of_lt_of_le hbl HMz.out.2.size
        have HHas := Lib.hid (hasI_any (.slice p1 P.length c1) P n wr (HM1.out.list.below HMz.out.2) (by omega))
        have hkd : decide ((k : Int) < (rest.length : Int)) = true := by simp; omega
        cases hcn : P.contains n with
        | true =>
          rw [hcn] at HHas
          have HUp := Lib.hid (filter_hit hkc hcn)
          clear hc hkc hcn hvz
          go_wp2_with fail
          refine Gives.mono' HHas.out ?_
          intro x2
          have HSrc : Hid (SrcI (x2.w.alloc (.cells #[.int .i64 n] 3)) (.slice (some ⟨x2.w.heap.size, 0, none⟩) 1 1) [n]) := Lib.hid (srcI_one (heap_alloc_new x2.w _))
          have HMa := Lib.hid ((HMz.out.later x2).later ⟨x2.w.alloc (.cells #[.int .i64 n] 3), ext_alloc (ext_refl _) _⟩)
          dsimp only at HMa
          go_wp2_with (at_builtin; refine wpListI_append (xs := fl) (l := [n]) rfl _ _ rfl rfl rfl HMa.out HSrc.out (by simp; omega) ?_; intro v' w5 hm; have HM5 := Lib.hid hm; clear hm)
          go_roundw
          case rel => exact ⟨k + 1, by go_num, by omega, by rw [HUp.out, HFl.out]; exact HM5.out⟩
          case measure => simp [intOf]; omega
        | false =>
          rw [hcn] at HHas
          have HUp := Lib.hid (filter_miss hkc hcn)
          clear hc hkc hcn hvz
          go_wp2_with fail
          refine Gives.mono' HHas.out ?_
          intro x2
          go_wp2_with fail
          go_roundw
          case rel => exact ⟨k + 1, by go_num, by omega, by rw [HUp.out, HFl.out]; exact HMz.out.later x2⟩
          case measure => simp [intOf]; omega
      · obtain rfl : k = rest.length := by omega
        subst hvz
        have hflr : rest.filter (fun n => P.contains n) = fl := by have := HFl.out; rw [List.take_length] at this; exact this
        have HB3 := Lib.hid (HM1.out.2.trans (HMz.out.2.mono HM1.out.2.size))
        have HQ3 := Lib.hid ((HB3.out.block m hlt).trans HQ.out)
        have hl3 : m < wr.heap.size := Nat.lt_of_lt_of_le hlt HB3.out.size
        -- from a row of whom is left
        have HFin : Hid (∀ (W wb : World) (x : Int) (r : List Int) (g cap : Nat), leftNow rest P draw = x :: r → w.heap.size ≤ wb.heap.size → Below w.heap.size w W → MadeI wb W (.slice (some ⟨g, 0, none⟩) (r.length + 1) cap) (x :: r) → (nextOf self rest peers draw).1 = x ∧ ROEnd m self (nextOf self rest peers draw).2 H w (W.setCell ⟨m, 1, none⟩ (.slice (if cap = 1 then some ⟨g, 0, none⟩ else some ⟨g, 1, none⟩) r.length (cap - 1)))) := Lib.hid fun W wb x r g cap hx hwb hbb hmm => by
          have hne : P ≠ [] := fun e => by rw [e] at hP1; simp at hP1
          have e : nextOf self rest peers draw = (x, r) := by unfold nextOf; rw [HPe.out, if_neg hne, hx]; rfl
          rw [e]
          exact ⟨rfl, next_done HO.out hwb hbb hmm⟩
        cases fl with
        | nil =>
          have hne : P ≠ [] := fun e => by rw [e] at hP1; simp at hP1
          have hLN : leftNow rest P draw = shuf P draw := by unfold leftNow; rw [hflr]
          obtain ⟨x, r, hxr⟩ : ∃ x r, shuf P draw = x :: r := by
            cases hs : shuf P draw with
            | nil => exact absurd (hLN.trans hs) (leftNow_ne hne)
            | cons x r => exact ⟨x, r, rfl⟩
          have hr8 : r.length ≤ 64 := by have := shuf_len P draw; rw [hxr, List.length_cons] at this; omega
          have HSh := Lib.hid (refShuf_any (.slice p1 P.length c1) P draw wr (HM1.out.src.below HMz.out.2) (by omega) h0 h1)
          unfold ShufEnd at HSh
          rw [hxr] at HSh
          have HFin' := Lib.hid (fun W wb g cap => HFin.out W wb x r g cap (hLN.trans hxr))
          clear hflr hLN hxr HFin
          go_wp2_with fail
          refine HSh.out.mono ?_
          rintro e w4 ⟨u2, rfl, hm4⟩
          obtain ⟨g, cap, rfl, -⟩ := hm4.open (by simp)
          have hq4 := (hm4.2.block m hl3).trans HQ3.out
          have HB4 := Lib.hid (HB3.out.trans (hm4.2.mono HB3.out.size))
          rw [List.length_cons] at hm4 ⊢
          have HM4 := Lib.hid hm4
          have hl4 : m < w4.heap.size := Nat.lt_of_lt_of_le hl3 hm4.2.size
          clear hm4
          have hge := (HM4.out.1.lt g rfl).1
          have hgm : g ≠ m := by omega
          obtain ⟨g', cap', hv, _, hgl, _, hc⟩ := HM4.out.open (by simp)
          obtain ⟨hv1, -, hv3⟩ := Value.slice.inj hv
          obtain rfl : g = g' := by simpa using hv1
          have hx0 := hc 0 x (by simp)
          have hcap : r.length + 1 ≤ cap := by
            rcases HM4.out.1.2 with ⟨h1, h2⟩ | ⟨g', cap', cur, hv, _, _, hnc, _⟩
            · simp at h1
            · obtain ⟨_, _, rfl⟩ := Value.slice.inj hv
              simpa using hnc
          have m1 : w4.cell? ⟨m, 1, none⟩ = some (.slice po rest.length co) := by simp [World.cell?, hq4]
          have m2 : w4.frozen? ⟨m, 1, none⟩ = false := by simp [World.frozen?, hq4]
          clear hq4 hc hv hv1 hv3 hge
          have HF1 := Lib.hid (HFin'.out w4 wr g cap HB3.out.size HB4.out HM4.out)
          by_cases hc1 : cap = 1
          · subst hc1
            rw [if_pos rfl, show r.length = 0 from by omega] at HF1
            go_wp2_with fail
            go_ret
            exact ⟨by rw [HF1.out.1]; rfl, HF1.out.2⟩
          · rw [if_neg hc1] at HF1
            go_wp2_with fail
            go_ret
            exact ⟨by rw [HF1.out.1]; rfl, HF1.out.2⟩
        | cons x r =>
          have hLN : leftNow rest P draw = x :: r := by unfold leftNow; rw [hflr]
          have HFin' := Lib.hid (fun W wb g cap => HFin.out W wb x r g cap hLN)
          have hr8 : r.length ≤ 100 := by simpa using (Nat.le_trans (Nat.le_of_lt (Nat.lt_succ_self _)) (by simpa using hlen : r.length + 1 ≤ 100))
          obtain ⟨g, cap, hvz, -⟩ := HMz.out.open (by simp)
          obtain ⟨rfl, -, rfl⟩ := Value.slice.inj hvz
          have HM4 := HMz
          rw [List.length_cons] at HM4 ⊢
          clear HFl hflr hLN HFin HMz hvz
          have hge := (HM4.out.1.lt g rfl).1
          have hgm : g ≠ m := by have := HM1.out.2.size; omega
          obtain ⟨g', cap', hv, _, hgl, _, hc⟩ := HM4.out.open (by simp)
          obtain ⟨hv1, -, hv3⟩ := Value.slice.inj hv
          obtain rfl : g = g' := by simpa using hv1
          have hx0 := hc 0 x (by simp)
          have hcap : r.length + 1 ≤ cz := by
            rcases HM4.out.1.2 with ⟨h1, h2⟩ | ⟨g', cap', cur, hv, _, _, hnc, _⟩
            · simp at h1
            · obtain ⟨_, _, rfl⟩ := Value.slice.inj hv
              simpa using hnc
          have m1 : wr.cell? ⟨m, 1, none⟩ = some (.slice po rest.length co) := by simp [World.cell?, HQ3.out]
          have m2 : wr.frozen? ⟨m, 1, none⟩ = false := by simp [World.frozen?, HQ3.out]
          have gr : (((r.length : Nat) : Int) + 1 == 0) = false := by rw [beq_eq_false_iff_ne]; omega
          clear hc hv hv1 hv3 hge
          have HF1 := Lib.hid (HFin'.out wr w2 g cz HM1.out.2.size HB3.out HM4.out)
          by_cases hc1 : cz = 1
          · subst hc1
            rw [if_pos rfl, show r.length = 0 from by omega] at HF1
            go_wp2_with fail
            go_ret
            exact ⟨by rw [HF1.out.1]; rfl, HF1.out.2⟩
          · rw [if_neg hc1] at HF1
            go_wp2_with fail
            go_ret
            exact ⟨by rw [HF1.out.1]; rfl, HF1.out.2⟩
end Go.Proofs.Ytfhfhneclplklaa
