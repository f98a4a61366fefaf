/- BeliefCopy's walk. -/
import Derived.Test.YtbddjhkoikcgjaaLists
import Derived.LoopTactic
import Derived.OwnWalk
namespace Go.Proofs.Ytbddjhkoikcgjaa
open Go Go.RowKit

/-- A list's value, and where its claims lie. -/
def Lies (w : World) (p : Option Addr) (l : List Cl) : Prop :=
  l = [] ∨ ∃ b o, p = some ⟨b, o, none⟩ ∧ b < w.heap.size ∧ ∀ k c, l[k]? = some c → w.cell? ⟨b, o + k * 3, none⟩ = some (.int .i64 c.n) ∧ w.cell? ⟨b, o + k * 3 + 1, none⟩ = some (.int .i64 c.i) ∧ w.cell? ⟨b, o + k * 3 + 2, none⟩ = some (.int .i64 c.h)
theorem ListAt.form {w : World} {v : Value} {l : List Cl} (hl : ListAt w v l) : ∃ p cap, v = .slice p l.length cap ∧ Lies w p l := by
  rcases hl with ⟨rfl, p, cap, rfl⟩ | ⟨b, o, cap, rfl, hlt, hc⟩
  · exact ⟨_, _, rfl, .inl rfl⟩
  · exact ⟨_, _, rfl, .inr ⟨b, o, rfl, hlt, hc⟩⟩
theorem hearAll_step (V : Vw) (m : List Cl) (k : Nat) (c : Cl) (hk : m[k]? = some c) : hearAll V (m.take (k + 1)) = hearV (hearAll V (m.take k)) c := by
  rw [List.take_add_one, hk]
  exact hearAll_snoc _ _ _

set_option maxHeartbeats 2000000 in
set_option maxRecDepth 100000 in
theorem copied_long (v1 v2 : Value) (l m : List Cl) (w : World) (hl : ListAt w v1 l) (hm : ListAt w v2 m) (h1 : l.length * 24 ≤ 140737488351232) (h2 : m.length * 24 ≤ 140737488351232) (hlong : 80 < l.length + m.length) : Gives Try.prog 5 #[v1, v2] w (.bool true) := by
  unfold Gives
  have H8 := Lib.hid awake_any
  obtain ⟨p1, c1, rfl, _⟩ := hl.form
  obtain ⟨p2, c2, rfl, _⟩ := hm.form
  clear hl hm
  have hlong' : 80 < (l.length : Int) + (m.length : Int) := by omega
  go_enter Try.func5, Try.ntmps5
  go_wp2_with fail
  refine Gives.mono' (H8.out _) ?_
  intro x
  go_wp2_with fail
  go_ret
  exact ⟨rfl, Later.ex (by repeat (first | exact ext_refl _ | refine ext_alloc ?_ _ | refine ext_later ?_ _ | refine ext_drew ?_ | refine ext_drewN ?_ _))⟩

/-- What holds while the second list is heard by the copy. -/
structure Loop1 (w w1 wr : World) (V U : Vw) : Prop where
  v : ViewAt wr w.heap.size V
  u : ViewAt wr w1.heap.size U
  b : Below w.heap.size w wr
theorem Loop1.alloc {w w1 wr : World} {V U : Vw} (h : Loop1 w w1 wr V U) (o : Obj) : Loop1 w w1 (wr.alloc o) V U :=
  ⟨h.v.kept (World.grownBy_alloc _ _ none) (by simp), h.u.kept (World.grownBy_alloc _ _ none) (by simp), h.b.alloc h.b.size o⟩
theorem Loop1.heard {w w1 wr W' : World} {V U U' : Vw} (h : Loop1 w w1 wr V U) (hlt : w.heap.size < w1.heap.size) (hg : wr.grownBy W' (some w1.heap.size)) (hu : ViewAt W' w1.heap.size U') : Loop1 w w1 W' V U' :=
  ⟨h.v.kept hg (by simp; omega), hu, h.b.grown hg h.b.size (fun j e => by cases e; omega)⟩

/-- A list of the call's own that is written to. -/
def Ours (w4 W : World) (p : Option Addr) (q : Nat) : Prop := q = 0 ∨ ∃ g, p = some ⟨g, 0, none⟩ ∧ w4.heap.size ≤ g ∧ ∃ cur, W.heap[g]? = some (.cells cur 23 (0, 0)) ∧ q * 3 ≤ cur.size
theorem ours_of_own {w4 W : World} {v : Value} {q : Nat} {xs : List Value} (h : W.ownsRow w4.heap.size 23 3 v q xs) : ∃ p cap, v = .slice p q cap ∧ Ours w4 W p q := by
  rcases h.2 with ⟨rfl, rfl⟩ | ⟨g, cap, cur, rfl, hb, hg, hc, _, hs, _⟩
  · exact ⟨_, _, rfl, .inl rfl⟩
  · exact ⟨_, _, rfl, .inr ⟨g, rfl, hb, cur, hg, by rw [hs]; exact Nat.mul_le_mul_right 3 hc⟩⟩
theorem Ours.cell {w4 W : World} {g q k : Nat} {cur : Array Value} (hg : W.heap[g]? = some (.cells cur 23 (0, 0))) (hs : q * 3 ≤ cur.size) (hk : k < q) : ∃ u, W.cell? ⟨g, k * 3 + 1, none⟩ = some u := by
  refine ⟨cur[k * 3 + 1]'(by omega), ?_⟩
  rw [cell_of_row W g _ cur _ _ hg]
  simp

set_option maxHeartbeats 4000000 in
set_option maxRecDepth 100000 in
theorem copied_short (v1 v2 : Value) (l m : List Cl) (w : World) (hl : ListAt w v1 l) (hm : ListAt w v2 m) (hs : l.length + m.length ≤ 80) : Gives Try.prog 5 #[v1, v2] w (.bool true) := by
  unfold Gives
  have H8 := Lib.hid awake_any
  have HL := Lib.hid hl
  obtain ⟨p1, c1, rfl, _⟩ := hl.form
  obtain ⟨p2, c2, rfl, hc2⟩ := hm.form
  have HC := Lib.hid hc2
  clear hl hm hc2
  have hs' : (l.length : Int) + (m.length : Int) ≤ 80 := by omega
  go_enter Try.func5, Try.ntmps5
  go_wp2_with fail
  refine (heard_any _ l w HL.out (by omega)).mono ?_
  rintro e w1 ⟨rfl, hv1, hB1⟩
  have HV1 := Lib.hid hv1
  have hlt1 := hv1.lt
  have HB1 := Lib.hid hB1
  clear hv1 hB1
  go_wp2_with fail
  refine (copy_any w.heap.size (heardL l) w1 HV1.out).mono ?_
  rintro e w2 ⟨rfl, hv2, hB2, hs2⟩
  have HL1 : Hid (Loop1 w w1 w2 (heardL l) (heardL l)) := Lib.hid ⟨HV1.out.later hB2, hv2, HB1.out.trans (hB2.mono HB1.out.size)⟩
  clear hv2 hB2 hs2
  go_wp2_with fail
  go_loopw [26] (fun i wr => ∃ k : Nat, k ≤ m.length ∧ i = .int .i64 k ∧ Loop1 w w1 wr (heardL l) (hearAll (heardL l) (m.take k))) (fun i _ => m.length - (intOf i).toNat)
  case atStart => exact ⟨0, by omega, rfl, HL1.out⟩
  case round =>
    obtain ⟨k, hk, rfl, hI⟩ := hrel
    by_cases hkl : k < m.length
    · obtain ⟨⟨n, i, s⟩, hkc⟩ : ∃ c, m[k]? = some c := ⟨_, List.getElem?_eq_getElem hkl⟩
      rcases HC.out with h0 | ⟨b, o, rfl, hlt, hc⟩
      · rw [h0] at hkl; simp at hkl
      obtain ⟨h0, h1, h2⟩ := hc k _ hkc
      have hc0 : wr.cell? ⟨b, o + k * 3, none⟩ = some (.int .i64 n) := (hI.b.cell (p := ⟨b, _, none⟩) hlt).trans h0
      have hc1 : wr.cell? ⟨b, o + k * 3 + 1, none⟩ = some (.int .i64 i) := (hI.b.cell (p := ⟨b, _, none⟩) hlt).trans h1
      have hc2 : wr.cell? ⟨b, o + k * 3 + 2, none⟩ = some (.int .i64 s) := (hI.b.cell (p := ⟨b, _, none⟩) hlt).trans h2
      clear h0 h1 h2 hc
      have hI1 := hI.alloc (.cells #[.int .i64 n, .int .i64 i, .int .i64 s] 23)
      have HH := Lib.hid ((hear_any w1.heap.size _ ⟨n, i, s⟩ _ hI1.u).mono (R' := fun e W' => (∃ q, e = .returned (.bool q)) ∧ Hid (Loop1 w w1 W' (heardL l) (hearAll (heardL l) (m.take (k + 1)))))
        (fun e W' ⟨he, hv', hg'⟩ => ⟨⟨_, he⟩, Lib.hid (by rw [hearAll_step _ m k _ hkc]; exact hI1.heard hlt1 hg' hv')⟩))
      clear hI1 hI hkc
      unfold Cl.val at HH
      dsimp only at HH
      go_wp2_with (go_at_call 8; refine HH.out.mono ?_; rintro e W' ⟨⟨q, rfl⟩, HK⟩)
      go_roundw
      case rel => exact ⟨k + 1, by omega, by go_num, HK.out⟩
      case measure => simp [intOf]; omega
    · obtain rfl : k = m.length := by omega
      rw [List.take_length] at hI
      have HI := Lib.hid hI
      clear hI
      obtain ⟨U, hU⟩ : ∃ U, hearAll (heardL l) m = U := ⟨_, rfl⟩
      have HU := Lib.hid hU
      rw [hU] at HI
      clear hU
      obtain ⟨wA, rfl⟩ : ∃ wA : World, wA = wr := ⟨_, rfl⟩
      go_wp2_with fail
      refine (heard_any _ l wA (HL.out.below HI.out.b) (by omega)).mono ?_
      rintro e w4 ⟨rfl, hv4, hB4⟩
      have HV4 := Lib.hid hv4
      have HI4 : Hid (Loop1 w w1 w4 (heardL l) U) := Lib.hid ⟨HI.out.v.later hB4, HI.out.u.later hB4, HI.out.b.trans (hB4.mono HI.out.b.size)⟩
      clear hv4 hB4
      go_wp2_with fail
      refine (all_any w1.heap.size U w4 HI4.out.u).mono ?_
      rintro e w5 ⟨v5, rfl, hown, hB5⟩
      obtain ⟨p5, cap5, rfl, hours⟩ := ours_of_own hown
      obtain ⟨q, hq⟩ : ∃ q, (saidV U).length = q := ⟨_, rfl⟩
      have hq8 : q ≤ 8 := by rw [← hq]; exact saidUp_len U 8
      rw [hq] at hours ⊢
      have HB5 := Lib.hid hB5
      have HO := Lib.hid hours
      clear hown hB5 hours hq
      go_wp2_with fail
      clear hkl
      go_loopw [40] (fun i wr => ∃ k : Nat, k ≤ q ∧ i = .int .i64 k ∧ Ours w4 wr p5 q ∧ Below w4.heap.size w4 wr) (fun i _ => q - (intOf i).toNat)
      case atStart => exact ⟨0, by omega, rfl, HO.out, HB5.out⟩
      case round =>
        obtain ⟨k, hk, rfl, hO, hB⟩ := hrel
        by_cases hkl : k < q
        · rcases hO with h0 | ⟨g, rfl, hg4, cur, hg, hcs⟩
          · omega
          obtain ⟨u, hu⟩ := Ours.cell (w4 := w4) hg hcs hkl
          have hfr := frozen_of_row _ g (k * 3 + 1) cur _ hg
          have HG := Lib.hid hg
          have HB := Lib.hid hB
          clear hg hB
          go_wp2_with fail
          go_roundw
          case rel => exact ⟨k + 1, by omega, by go_num, .inr ⟨g, rfl, hg4, _, heap_setCell_same _ g _ _ _ _ HG.out, by simpa using hcs⟩, HB.out.setCell (p := ⟨g, _, none⟩) hg4 _⟩
          case measure => simp [intOf]; omega
        · obtain rfl : k = q := by omega
          have HB := Lib.hid hB
          clear hO hB
          obtain ⟨z, rfl⟩ : ∃ z : World, z = wr := ⟨_, rfl⟩
          have HI5 : Hid (Loop1 w w1 z (heardL l) U) := Lib.hid ⟨HI4.out.v.later HB.out, HI4.out.u.later HB.out, HI4.out.b.trans (HB.out.mono HI4.out.b.size)⟩
          have HV5 := Lib.hid (HV4.out.later HB.out)
          obtain ⟨V, hV⟩ : ∃ V, heardL l = V := ⟨_, rfl⟩
          have hge : ∀ k, k < 8 → 0 ≤ cmpC (U k).i (U k).h (V k).i (V k).h := by
            intro k hk
            rw [← HU.out, ← hV]
            have := (hearAll_lub m (heardL l) k _).1 (kle_refl _)
            have h2 := this.1
            unfold kle cmpK at h2
            rw [cmpC_neg] at h2
            omega
          have hz := join_again (C := hearAll V (saidV U)) (D := U) (by rw [← HU.out]; exact good_all (good_heard l) m) (fun k hk => ((join_lub (by rw [← hV]; exact good_heard l) (by rw [← HU.out]; exact good_all (good_heard l) m) k hk _).1 (kle_refl _)).2)
          have hle : heardN V (saidV U) ≤ (saidV U).length := heardN_le _ _
          have HGE := Lib.hid hge
          have HZ := Lib.hid hz
          rw [hV] at HI5 HV5
          clear hge hz hV HI HI4 HV4 HU HB5 HO HV1 HL1 HL HB
          go_wp2_with fail
          go_loopw [48] (fun i wr => ∃ k : Nat, k ≤ 8 ∧ i = .int .i64 k ∧ ∃ x : Later z, wr = x.w) (fun i _ => 8 - (intOf i).toNat)
          case atStart => exact ⟨0, by omega, rfl, ⟨z, Below.refl _ _⟩, rfl⟩
          case round =>
            obtain ⟨k, hk, rfl, x, rfl⟩ := hrel
            by_cases hk8 : k < 8
            · have HA : Hid (∀ y : Later z, Gives Try.prog 9 #[.pointer (some ⟨w.heap.size, 0, none⟩), .int .i64 k] y.w (.agg #[.int .i64 k, .int .i64 (V k).i, .int .i64 (V k).h])) := Lib.hid (fun y => (of_any _ _ k _ (HI5.out.v.later y.below)).cast (by rw [ofV_in _ k hk8]; rfl))
              have HB : Hid (∀ y : Later z, Gives Try.prog 9 #[.pointer (some ⟨wA.heap.size, 0, none⟩), .int .i64 k] y.w (.agg #[.int .i64 k, .int .i64 (V k).i, .int .i64 (V k).h])) := Lib.hid (fun y => (of_any _ _ k _ (HV5.out.later y.below)).cast (by rw [ofV_in _ k hk8]; rfl))
              have HC : Hid (∀ y : Later z, Gives Try.prog 9 #[.pointer (some ⟨w1.heap.size, 0, none⟩), .int .i64 k] y.w (.agg #[.int .i64 k, .int .i64 (U k).i, .int .i64 (U k).h])) := Lib.hid (fun y => (of_any _ _ k _ (HI5.out.u.later y.below)).cast (by rw [ofV_in _ k hk8]; rfl))
              have hg := HGE.out k hk8
              have HX := Lib.hid (compare_any k (U k).i (U k).h k (V k).i (V k).h)
              obtain ⟨a, ha⟩ : ∃ a, cmpC (U k).i (U k).h (V k).i (V k).h = a := ⟨_, rfl⟩
              obtain ⟨u1, hu1⟩ : ∃ a, (U k).i = a := ⟨_, rfl⟩
              obtain ⟨u2, hu2⟩ : ∃ a, (U k).h = a := ⟨_, rfl⟩
              obtain ⟨u3, hu3⟩ : ∃ a, (V k).i = a := ⟨_, rfl⟩
              obtain ⟨u4, hu4⟩ : ∃ a, (V k).h = a := ⟨_, rfl⟩
              rw [ha] at HX hg
              rw [hu3, hu4] at HA HB HX
              rw [hu1, hu2] at HC HX
              clear ha hu1 hu2 hu3 hu4
              go_wp2_with fail
              refine Gives.on (HA.out _) ?_
              intro x1
              go_wp2_with fail
              refine Gives.on (HB.out _) ?_
              intro x2
              go_wp2_with fail
              refine Gives.on (HC.out _) ?_
              intro x3
              go_wp2_with fail
              refine Gives.on (HA.out _) ?_
              intro x4
              go_wp2_with fail
              refine Gives.on (HX.out _) ?_
              intro x5
              go_wp2_with fail
              go_roundw
              case rel => exact ⟨k + 1, by omega, by go_num, x5, rfl⟩
              case measure => simp [intOf]; omega
            · obtain rfl : k = 8 := by omega
              have HI6 : Hid (Loop1 w w1 x.w V U) := Lib.hid ⟨HI5.out.v.later x.below, HI5.out.u.later x.below, HI5.out.b.trans (x.below.mono HI5.out.b.size)⟩
              obtain ⟨y, hy⟩ : ∃ y, x.w = y := ⟨_, rfl⟩
              rw [hy] at HI6 ⊢
              clear hy
              have HJ := Lib.hid (join_any w.heap.size w1.heap.size V U y HI6.out.v HI6.out.u)
              obtain ⟨q1, hq1⟩ : ∃ q, (saidV U).length = q := ⟨_, rfl⟩
              obtain ⟨q2, hq2⟩ : ∃ q, heardN V (saidV U) = q := ⟨_, rfl⟩
              rw [hq1, hq2] at hle
              rw [hq2] at HJ
              have HAL := Lib.hid (all_len w1.heap.size U)
              rw [hq1] at HAL
              have hq18 : q1 ≤ 8 := by rw [← hq1]; exact saidUp_len U 8
              clear hq1 hq2
              go_wp2_with fail
              refine HJ.out.mono ?_
              rintro e y1 ⟨rfl, hj1, hj2⟩
              have hb1 : Below w.heap.size w y1 := HI6.out.b.grown hj2 HI6.out.b.size (fun j e => by cases e; omega)
              have HB1 := Lib.hid hb1
              have HV1 := Lib.hid hj1
              have HU1 := Lib.hid (HI6.out.u.kept hj2 (by simp; omega))
              clear hj1 hj2 hb1
              go_wp2_with fail
              refine (HAL.out _ HU1.out).mono ?_
              rintro e _ ⟨p6, cap6, rfl, x6, rfl⟩
              have HJ2 := Lib.hid (join_any w.heap.size w1.heap.size _ U x6.w (HV1.out.later x6.below) (HU1.out.later x6.below))
              rw [HZ.out] at HJ2
              go_wp2_with fail
              refine HJ2.out.mono ?_
              rintro e y2 ⟨rfl, _, hj2⟩
              have hb2 : Below w.heap.size w y2 := (HB1.out.trans (x6.below.mono HB1.out.size)).grown hj2 (Nat.le_trans HB1.out.size x6.below.size) (fun j e => by cases e; omega)
              have HB2 := Lib.hid hb2
              clear hj2 hb2
              go_wp2_with fail
              refine Gives.mono' (H8.out _) ?_
              intro x7
              go_wp2_with fail
              go_ret
              exact ⟨rfl, Later.ex (by repeat (first | exact HB2.out | refine ext_later ?_ _ | refine ext_alloc ?_ _ | refine ext_drew ?_ | refine ext_drewN ?_ _))⟩

theorem copied_any (v1 : Value) (l : List Cl) (v2 : Value) (m : List Cl) (w : World) (hl : ListAt w v1 l) (h1 : l.length * 24 ≤ 140737488351232) (hm : ListAt w v2 m) (h2 : m.length * 24 ≤ 140737488351232) : Gives Try.prog 5 #[v1, v2] w (.bool true) := by
  by_cases h : 80 < l.length + m.length
  · exact copied_long v1 v2 l m w hl hm h1 h2 h
  · exact copied_short v1 v2 l m w hl hm (by omega)
end Go.Proofs.Ytbddjhkoikcgjaa
