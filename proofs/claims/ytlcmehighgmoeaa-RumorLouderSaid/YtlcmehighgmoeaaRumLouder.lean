/- RumorLouder's walk. -/
import Derived.Test.YtlcmehighgmoeaaRumBack
namespace Go.Proofs.Ytlcmehighgmoeaa
open Go Go.RowKit

/-- The loudest claim of one node, and the queue: nothing yet, or that one, told at most k times. -/
def LInv (N : Int) (k : Nat) (ld : Cl) (R : List Td) : Prop := (ld = ⟨N, 0, 0⟩ ∧ R = []) ∨ (ld.n = N ∧ mayK ld = true ∧ nothingK ld = false ∧ ∃ j, j ≤ k ∧ j ≤ 15 ∧ R = [⟨ld, j⟩])

structure St2 (w : World) (q b6 : Nat) (ld : Cl) (R : List Td) (W : World) : Prop where
  qs : QS w [b6] q 20 R W
  box : W.heap[b6]? = some (.cells #[.int .i64 ld.n, .int .i64 ld.i, .int .i64 ld.h] 28 (0, 0))
  ge : w.heap.size ≤ b6
/-- Within a round: the claim's own box besides. -/
structure St3 (w : World) (q b6 cb : Nat) (c ld : Cl) (R : List Td) (W : World) : Prop where
  qs : QS w [cb, b6] q 20 R W
  cbox : W.heap[cb]? = some (.cells #[.int .i64 c.n, .int .i64 c.i, .int .i64 c.h] 28 (0, 0))
  box : W.heap[b6]? = some (.cells #[.int .i64 ld.n, .int .i64 ld.i, .int .i64 ld.h] 28 (0, 0))
  ge : w.heap.size ≤ b6
  lt : b6 < cb
section
variable {w : World} {q b6 cb : Nat} {c ld : Cl} {R : List Td} {W : World}
theorem St2.later (h : St2 w q b6 ld R W) (x : Later W) : St2 w q b6 ld R x.w := ⟨h.qs.later x, (x.below.block _ (Array.getElem?_eq_some_iff.1 h.box).1).trans h.box, h.ge⟩
theorem St3.later (h : St3 w q b6 cb c ld R W) (x : Later W) : St3 w q b6 cb c ld R x.w := ⟨h.qs.later x, (x.below.block _ (Array.getElem?_eq_some_iff.1 h.cbox).1).trans h.cbox, (x.below.block _ (Array.getElem?_eq_some_iff.1 h.box).1).trans h.box, h.ge, h.lt⟩
theorem St3.mk' {R' : List Td} {W' : World} (h : St3 w q b6 cb c ld R W) (hq : QS w [cb, b6] q 20 R' W') (hk : Keeps [cb, b6] W W') : St3 w q b6 cb c ld R' W' := ⟨hq, (hk.2 _ (by simp)).trans h.cbox, (hk.2 _ (by simp)).trans h.box, h.ge, h.lt⟩
theorem St3.out (h : St3 w q b6 cb c ld R W) : St2 w q b6 ld R W := ⟨h.qs.narrower (by simp), h.box, h.ge⟩
theorem St3.cells (h : St3 w q b6 cb c ld R W) : (W.cell? ⟨cb, 0, none⟩ = some (.int .i64 c.n) ∧ W.cell? ⟨cb, 1, none⟩ = some (.int .i64 c.i) ∧ W.cell? ⟨cb, 2, none⟩ = some (.int .i64 c.h)) ∧ (W.cell? ⟨b6, 0, none⟩ = some (.int .i64 ld.n) ∧ W.cell? ⟨b6, 1, none⟩ = some (.int .i64 ld.i) ∧ W.cell? ⟨b6, 2, none⟩ = some (.int .i64 ld.h)) ∧
    (W.frozen? ⟨b6, 0, none⟩ = false ∧ W.frozen? ⟨b6, 1, none⟩ = false ∧ W.frozen? ⟨b6, 2, none⟩ = false) ∧ cb < W.heap.size ∧ b6 < W.heap.size :=
  ⟨⟨by simp [World.cell?, h.cbox], by simp [World.cell?, h.cbox], by simp [World.cell?, h.cbox]⟩, ⟨by simp [World.cell?, h.box], by simp [World.cell?, h.box], by simp [World.cell?, h.box]⟩, ⟨by simp [World.frozen?, h.box], by simp [World.frozen?, h.box], by simp [World.frozen?, h.box]⟩, (Array.getElem?_eq_some_iff.1 h.cbox).1, (Array.getElem?_eq_some_iff.1 h.box).1⟩
/-- A round begins: the claim's box, its node set. -/
theorem St2.enter (h : St2 w q b6 ld R W) (N i s : Int) : St3 w q b6 W.heap.size ⟨N, i, s⟩ ld R (W.alloc (.cells #[.int .i64 N, .int .i64 i, .int .i64 s] 28)) := by
  have hl := (Array.getElem?_eq_some_iff.1 h.box).1
  have hb : Below W.heap.size W (W.alloc (.cells #[.int .i64 N, .int .i64 i, .int .i64 s] 28)) := ext_alloc (ext_refl W) _
  exact ⟨h.qs.wider hb (Nat.le_refl _) (by simp), heap_alloc_new W _, (hb.block _ hl).trans h.box, h.ge, hl⟩
/-- The loudest one is exchanged for the claim. -/
theorem St3.louder (h : St3 w q b6 cb c ld R W) : St3 w q b6 cb c c R (((W.setCell ⟨b6, 0, none⟩ (.int .i64 c.n)).setCell ⟨b6, 1, none⟩ (.int .i64 c.i)).setCell ⟨b6, 2, none⟩ (.int .i64 c.h)) := by
  have h1 := heap_setCell_same W b6 0 _ _ (.int .i64 c.n) h.box
  have h2 := heap_setCell_same _ b6 1 _ _ (.int .i64 c.i) h1
  have h3 := heap_setCell_same _ b6 2 _ _ (.int .i64 c.h) h2
  have hlt := h.lt
  have hk : ∀ k, k ≠ b6 → (((W.setCell ⟨b6, 0, none⟩ (.int .i64 c.n)).setCell ⟨b6, 1, none⟩ (.int .i64 c.i)).setCell ⟨b6, 2, none⟩ (.int .i64 c.h)).heap[k]? = W.heap[k]? := fun k hk =>
    (Below.heap_setCell _ _ _ _ hk).trans ((Below.heap_setCell _ _ _ _ hk).trans (Below.heap_setCell _ _ _ _ hk))
  refine ⟨h.qs.keep ?_ (by simp) (fun k _ hG => hk k (by simp at hG; exact hG.2)), (hk cb (by omega)).trans h.cbox, h3, h.ge, h.lt⟩
  exact ext_setCell (ext_setCell (ext_setCell h.qs.below _ _ h.ge) _ _ h.ge) _ _ h.ge
end

theorem cmp_nothing {c ld : Cl} (_hc : mayK c = true) (hn : nothingK c = true) (hl : (ld.i = 0 ∧ ld.h = 0) ∨ mayK ld = true) : ¬ 0 < cmpC c.i c.h ld.i ld.h := by
  simp only [nothingK, nothingB, mayK, mayB, decide_eq_true_eq] at *
  rw [cmpC_spec]
  repeat' split
  all_goals omega
theorem cmp_first {c : Cl} (hc : mayK c = true) (hn : nothingK c = false) : 0 < cmpC c.i c.h 0 0 := by
  simp only [nothingK, nothingB, mayK, mayB, decide_eq_true_eq, decide_eq_false_iff_not] at *
  rw [cmpC_spec]
  repeat' split
  all_goals omega

/-- What Put does to the loudest one. -/
theorem louder_put {w : World} {q b6 cb : Nat} {c ld : Cl} {R : List Td} {W : World} {N : Int} {k : Nat} (h : St3 w q b6 cb c ld R W) (hi : LInv N k ld R) (hc : c.n = N) (hm : mayK c = true) :
    (0 < cmpC c.i c.h ld.i ld.h ∧ nothingK c = false ∧ Calls Try.prog 14 #[.pointer (some ⟨q, 0, none⟩), c.val] W fun e W' => e = .returned (.bool true) ∧ St3 w q b6 cb c ld [⟨c, 0⟩] W') ∨
    (¬ 0 < cmpC c.i c.h ld.i ld.h ∧ Calls Try.prog 14 #[.pointer (some ⟨q, 0, none⟩), c.val] W fun e W' => e = .returned (.bool false) ∧ St3 w q b6 cb c ld R W') := by
  cases hn : nothingK c with
  | true =>
    refine .inr ⟨cmp_nothing hm hn ?_, (qs_put h.qs c).mono fun e W' ⟨R', he, hp, hq, hk⟩ => ?_⟩
    · rcases hi with ⟨rfl, _⟩ | ⟨_, h1, _⟩
      · exact .inl ⟨rfl, rfl⟩
      · exact .inr h1
    · rw [putOf_bad (.inr hn)] at he hp
      rcases hi with ⟨_, rfl⟩ | ⟨_, _, _, j, _, _, rfl⟩
      · have := List.perm_nil.1 hp
        subst this
        exact ⟨he, h.mk' hq hk⟩
      · have := List.perm_singleton.1 hp
        subst this
        exact ⟨he, h.mk' hq hk⟩
  | false =>
    rcases hi with ⟨rfl, rfl⟩ | ⟨h1, h2, h3, j, _, _, rfl⟩
    · exact .inl ⟨cmp_first hm hn, rfl, (qs_put_new h.qs hm hn).mono fun e W' ⟨he, hq, hk⟩ => ⟨he, h.mk' hq hk⟩⟩
    · have hcn : cmpK ld c = -(cmpC c.i c.h ld.i ld.h) := cmpC_neg _ _ _ _
      have hput := qs_put_one (d := c) h.qs hm hn (h1.trans hc.symm)
      by_cases hp : 0 < cmpC c.i c.h ld.i ld.h
      · have h0 : ¬ 0 ≤ cmpK ld c := by omega
        rw [if_neg h0] at hput
        exact .inl ⟨hp, rfl, hput.mono fun e W' ⟨he, hq, hk⟩ => ⟨by rw [he]; simp [h0], h.mk' hq hk⟩⟩
      · have h0 : 0 ≤ cmpK ld c := by omega
        rw [if_pos h0] at hput
        exact .inr ⟨hp, hput.mono fun e W' ⟨he, hq, hk⟩ => ⟨by rw [he]; simp [h0], h.mk' hq hk⟩⟩

set_option maxHeartbeats 4000000 in
set_option maxRecDepth 100000 in
theorem louderLaw_any (v : Value) (l : List Cl) (n : Int) (w : World) (hl : ListAt w v l) (hm : l.length * 24 ≤ 140737488351232) (_ : (Lit.int .i64 n).wf = true) : Gives Try.prog 6 #[v, .int .i64 n] w (.bool true) := by
  unfold Gives
  obtain ⟨p, cap, rfl, hcell⟩ := hl.form
  have HL := Lib.hid hcell
  clear hcell hl
  obtain ⟨N, hN, hmod, _⟩ := mod_small 8 (by decide) (by decide) n
  have HM0 := Lib.hid hmod
  clear hmod
  have HA := Lib.hid awakeR_any
  have HN := Lib.hid (qs_new w [] 20 20 (by decide) w (ext_refl w) (fun b hb => by simp at hb))
  go_enter Try.func6, Try.ntmps6
  go_wp2_with fail
  refine HN.out.mono ?_
  rintro e w1 ⟨rfl, hq1, hb1⟩
  have HS1 := Lib.hid (show St2 w w.heap.size w1.heap.size ⟨N, 0, 0⟩ [] (w1.alloc (.cells #[.int .i64 N, .int .i64 0, .int .i64 0] 28)) from ⟨hq1.wider (ext_alloc (ext_refl w1) _) (Nat.le_refl _) (by simp), heap_alloc_new _ _, hb1.size⟩)
  clear hq1 hb1 HN
  go_wp2_with fail
  rw [HM0.out]
  clear HM0
  obtain ⟨b6, hb6⟩ : ∃ b, w1.heap.size = b := ⟨_, rfl⟩
  obtain ⟨w2, hw2⟩ : ∃ W, w1.alloc (.cells #[.int .i64 N, .int .i64 0, .int .i64 0] 28) = W := ⟨_, rfl⟩
  rw [hb6, hw2] at HS1 ⊢
  clear hb6 hw2
  go_loopw [22] (fun v22 wr => ∃ (k : Nat) (ld : Cl) (R : List Td), v22 = .int .i64 k ∧ k ≤ l.length ∧ LInv N k ld R ∧ St2 w w.heap.size b6 ld R wr) (fun v22 _ => l.length - (intOf v22).toNat)
  case atStart => exact ⟨0, ⟨N, 0, 0⟩, [], rfl, by omega, .inl ⟨rfl, rfl⟩, HS1.out⟩
  case round =>
    clear HS1
    obtain ⟨k, ld, R, rfl, hk, hinv, hs⟩ := hrel
    have HI := Lib.hid hinv
    have HS := Lib.hid hs
    clear hinv hs
    by_cases hkl : k < l.length
    · obtain ⟨⟨m, i, s⟩, hkc⟩ : ∃ c, l[k]? = some c := ⟨_, List.getElem?_eq_getElem hkl⟩
      rcases HL.out with h0 | ⟨b, o, rfl, hlt, hc⟩
      · rw [h0] at hkl; simp at hkl
      obtain ⟨h0, h1, h2⟩ := hc k _ hkc
      have hB := HS.out.qs.below
      have hc0 : wr.cell? ⟨b, o + k * 3, none⟩ = some (.int .i64 m) := (hB.cell (p := ⟨b, _, none⟩) hlt).trans h0
      have hc1 : wr.cell? ⟨b, o + k * 3 + 1, none⟩ = some (.int .i64 i) := (hB.cell (p := ⟨b, _, none⟩) hlt).trans h1
      have hc2 : wr.cell? ⟨b, o + k * 3 + 2, none⟩ = some (.int .i64 s) := (hB.cell (p := ⟨b, _, none⟩) hlt).trans h2
      clear h0 h1 h2 hc hkc hB
      have hkd : decide ((k : Int) < (l.length : Int)) = true := by simp; omega
      by_cases h60 : 60 ≤ k
      · have g60 : decide ((60 : Int) ≤ (k : Int)) = true := by simp; omega
        go_wp2_with fail
        have HX := Lib.hid (HS.out.later ⟨wr.alloc (.cells #[.int .i64 m, .int .i64 i, .int .i64 s] 28), ext_alloc (ext_refl _) _⟩)
        dsimp only at HX
        refine Gives.mono' (HA.out _) ?_
        intro x3
        go_wp2_with fail
        go_ret
        exact ⟨rfl, Later.ex (below_later HX.out.qs.below HX.out.qs.below.size x3)⟩
      · have g60 : decide ((60 : Int) ≤ (k : Int)) = false := by simp; omega
        have HE := Lib.hid (HS.out.enter N i s)
        have HMay : Hid (∀ W, Gives Try.prog 21 #[.agg #[.int .i64 N, .int .i64 i, .int .i64 s]] W (.bool (mayB N i s))) := Lib.hid fun W => may_any N i s W
        cases hmay : mayB N i s with
        | false =>
          rw [hmay] at HMay
          go_wp2_with fail
          refine Gives.mono' (HMay.out _) ?_
          intro x1
          go_wp2_with fail
          go_roundw
          case rel => exact ⟨k + 1, ld, R, by go_num, by omega, (by rcases HI.out with h | ⟨h1, h2, h3, j, h4, h5, h6⟩; exact .inl h; exact .inr ⟨h1, h2, h3, j, by omega, h5, h6⟩), (HE.out.later x1).out⟩
          case measure => simp [intOf]; omega
        | true =>
          rw [hmay] at HMay
          have HCmp := Lib.hid (fun W => compare_any N i s ld.n ld.i ld.h W)
          have HPut : Hid (∀ W, St3 w w.heap.size b6 wr.heap.size ⟨N, i, s⟩ ld R W → _) := Lib.hid fun W h => louder_put h HI.out rfl hmay
          dsimp only at HPut
          obtain ⟨C, hC⟩ : ∃ C, cmpC i s ld.i ld.h = C := ⟨_, rfl⟩
          rw [hC] at HCmp HPut
          clear hC
          go_upto_region 9 with fail
          obtain ⟨W1, hW1⟩ : ∃ W, wr.alloc (.cells #[.int .i64 N, .int .i64 i, .int .i64 s] 28) = W := ⟨_, rfl⟩
          rw [hW1] at HE ⊢
          obtain ⟨cb, hcb⟩ : ∃ cb, wr.heap.size = cb := ⟨_, rfl⟩
          rw [hcb] at HE HPut ⊢
          clear hW1 hc0 hc1 hc2
          obtain ⟨⟨e0, e1, e2⟩, ⟨d0, d1, d2⟩, _, hl1, hl2⟩ := HE.out.cells
          dsimp only at e0 e1 e2
          go_wp2_with fail
          refine Gives.mono' (HMay.out _) ?_
          intro x1
          go_wp2_with fail
          refine Gives.on (HCmp.out _) ?_
          intro x2
          go_wp2_with fail
          have HE2 := Lib.hid (HE.out.later x2)
          clear e0 e1 e2 d0 d1 d2 hl1 hl2 HE
          rcases HPut.out _ HE2.out with ⟨hpos, hnn, hput⟩ | ⟨hneg, hput⟩
          · have gC : decide (0 < C) = true := by simpa using hpos
            have HP := Lib.hid hput
            clear hput hpos
            go_wp2_with fail
            refine HP.out.mono ?_
            rintro e w3 ⟨rfl, hs3⟩
            have HS4 := Lib.hid hs3.louder
            obtain ⟨⟨e0, e1, e2⟩, ⟨d0, d1, d2⟩, ⟨z0, z1, z2⟩, hl1, hl2⟩ := hs3.cells
            dsimp only at e0 e1 e2 HS4
            clear hs3 HP
            go_upto_region 15 with fail
            obtain ⟨w4, hw4⟩ : ∃ W, ((w3.setCell ⟨b6, 0, none⟩ (.int .i64 N)).setCell ⟨b6, 1, none⟩ (.int .i64 i)).setCell ⟨b6, 2, none⟩ (.int .i64 s) = W := ⟨_, rfl⟩
            rw [hw4] at HS4 ⊢
            clear hw4 e0 e1 e2 d0 d1 d2 z0 z1 z2 hl1 hl2
            have HHas : Hid (Gives Try.prog 17 #[.pointer (some ⟨w.heap.size, 0, none⟩), .int .i64 N] w4 (.tuple #[.agg #[.int .i64 N, .int .i64 i, .int .i64 s], .int .i64 0, .bool true])) := Lib.hid ((qs_has HS4.out.qs N).cast (by simp [hasOf, hasV, Cl.val]))
            have hs0 : ((s : Int) != 0) = true := by simpa using mayB_cases hmay hnn
            obtain ⟨_, ⟨d0, d1, d2⟩, _, hl1, hl2⟩ := HS4.out.cells
            dsimp only at d0 d1 d2
            go_wp2_with fail
            refine Gives.mono' HHas.out ?_
            intro x4
            go_upto_region 18 with fail
            have HS5 := Lib.hid ((HS4.out.later x4).later ⟨x4.w.alloc (.cells #[.int .i64 N, .int .i64 i, .int .i64 s] 28), ext_alloc (ext_refl _) _⟩)
            dsimp only at HS5
            obtain ⟨w5, hw5⟩ : ∃ W, x4.w.alloc (.cells #[.int .i64 N, .int .i64 i, .int .i64 s] 28) = W := ⟨_, rfl⟩
            rw [hw5] at HS5 ⊢
            clear hw5 HHas HS4 d0 d1 d2 hl1 hl2
            by_cases h15 : k < 15
            · have g15 : decide ((k : Int) < 15) = true := by simp; omega
              go_wp2_with fail
              refine (qs_take_one (c := ⟨N, i, s⟩) (j := 0) HS5.out.qs 1 (by decide)).mono ?_
              rintro e w6 ⟨p6, cap6, rfl, hq6, hk6⟩
              have HS6 := Lib.hid (HS5.out.mk' hq6 hk6)
              clear hq6 hk6
              go_wp2_with fail
              go_roundw
              case rel => exact ⟨k + 1, ⟨N, i, s⟩, [⟨⟨N, i, s⟩, 1⟩], by go_num, by omega, .inr ⟨rfl, hmay, hnn, 1, by omega, by omega, rfl⟩, HS6.out.out⟩
              case measure => simp [intOf]; omega
            · have g15 : decide ((k : Int) < 15) = false := by simp; omega
              go_wp2_with fail
              go_roundw
              case rel => exact ⟨k + 1, ⟨N, i, s⟩, [⟨⟨N, i, s⟩, 0⟩], by go_num, by omega, .inr ⟨rfl, hmay, hnn, 0, by omega, by omega, rfl⟩, HS5.out.out⟩
              case measure => simp [intOf]; omega
          · rcases HI.out with ⟨rfl, rfl⟩ | ⟨hn1, hlm, hln, j, hj1, hj2, rfl⟩
            · have gC : decide (0 < C) = false := by simpa using hneg
              have HP := Lib.hid hput
              clear hput hneg
              go_wp2_with fail
              refine HP.out.mono ?_
              rintro e w4 ⟨rfl, hs3⟩
              have HS4 := Lib.hid hs3
              clear hs3 HP
              have HHas : Hid (Gives Try.prog 17 #[.pointer (some ⟨w.heap.size, 0, none⟩), .int .i64 N] w4 (.tuple #[.agg #[.int .i64 0, .int .i64 0, .int .i64 0], .int .i64 0, .bool false])) := Lib.hid ((qs_has HS4.out.qs N).cast (by rfl))
              obtain ⟨_, ⟨d0, d1, d2⟩, _, hl1, hl2⟩ := HS4.out.cells
              dsimp only at d0 d1 d2
              go_wp2_with fail
              refine Gives.mono' HHas.out ?_
              intro x4
              go_upto_region 18 with fail
              have HS5 := Lib.hid ((HS4.out.later x4).later ⟨x4.w.alloc (.cells #[.int .i64 0, .int .i64 0, .int .i64 0] 28), ext_alloc (ext_refl _) _⟩)
              dsimp only at HS5
              obtain ⟨w5, hw5⟩ : ∃ W, x4.w.alloc (.cells #[.int .i64 0, .int .i64 0, .int .i64 0] 28) = W := ⟨_, rfl⟩
              rw [hw5] at HS5 ⊢
              clear hw5 HHas HS4 d0 d1 d2 hl1 hl2
              by_cases h15 : k < 15
              · have g15 : decide ((k : Int) < 15) = true := by simp; omega
                go_wp2_with fail
                refine (qs_take_none HS5.out.qs 1).mono ?_
                rintro e w6 ⟨p6, cap6, rfl, hq6, hk6⟩
                have HS6 := Lib.hid (HS5.out.mk' hq6 hk6)
                clear hq6 hk6
                go_wp2_with fail
                go_roundw
                case rel => exact ⟨k + 1, ⟨N, 0, 0⟩, [], by go_num, by omega, .inl ⟨rfl, rfl⟩, HS6.out.out⟩
                case measure => simp [intOf]; omega
              · have g15 : decide ((k : Int) < 15) = false := by simp; omega
                go_wp2_with fail
                go_roundw
                case rel => exact ⟨k + 1, ⟨N, 0, 0⟩, [], by go_num, by omega, .inl ⟨rfl, rfl⟩, HS5.out.out⟩
                case measure => simp [intOf]; omega
            · obtain ⟨ln, li, lh⟩ := ld
              obtain rfl : ln = N := hn1
              have gC : decide (0 < C) = false := by simpa using hneg
              have HP := Lib.hid hput
              clear hput hneg
              go_wp2_with fail
              refine HP.out.mono ?_
              rintro e w4 ⟨rfl, hs3⟩
              have HS4 := Lib.hid hs3
              clear hs3 HP
              have HHas : Hid (Gives Try.prog 17 #[.pointer (some ⟨w.heap.size, 0, none⟩), .int .i64 N] w4 (.tuple #[.agg #[.int .i64 N, .int .i64 li, .int .i64 lh], .int .i64 j, .bool true])) := Lib.hid ((qs_has HS4.out.qs N).cast (by simp [hasOf, hasV, Cl.val]))
              have hs0 : ((lh : Int) != 0) = true := by simpa using mayB_cases hlm hln
              obtain ⟨_, ⟨d0, d1, d2⟩, _, hl1, hl2⟩ := HS4.out.cells
              dsimp only at d0 d1 d2
              go_wp2_with fail
              refine Gives.mono' HHas.out ?_
              intro x4
              go_upto_region 18 with fail
              have HS5 := Lib.hid ((HS4.out.later x4).later ⟨x4.w.alloc (.cells #[.int .i64 N, .int .i64 li, .int .i64 lh] 28), ext_alloc (ext_refl _) _⟩)
              dsimp only at HS5
              obtain ⟨w5, hw5⟩ : ∃ W, x4.w.alloc (.cells #[.int .i64 N, .int .i64 li, .int .i64 lh] 28) = W := ⟨_, rfl⟩
              rw [hw5] at HS5 ⊢
              clear hw5 HHas HS4 d0 d1 d2 hl1 hl2
              by_cases h15 : k < 15
              · have g15 : decide ((k : Int) < 15) = true := by simp; omega
                go_wp2_with fail
                refine (qs_take_one (c := ⟨N, li, lh⟩) (j := j) HS5.out.qs 1 (by decide)).mono ?_
                rintro e w6 ⟨p6, cap6, rfl, hq6, hk6⟩
                have hob : oneBack 20 ⟨N, li, lh⟩ (j + 1) = [⟨⟨N, li, lh⟩, j + 1⟩] := by unfold oneBack; rw [if_pos (by omega)]
                rw [hob] at hq6
                have HS6 := Lib.hid (HS5.out.mk' hq6 hk6)
                clear hq6 hk6
                go_wp2_with fail
                go_roundw
                case rel => exact ⟨k + 1, ⟨N, li, lh⟩, [⟨⟨N, li, lh⟩, j + 1⟩], by go_num, by omega, .inr ⟨rfl, hlm, hln, j + 1, by omega, by omega, rfl⟩, HS6.out.out⟩
                case measure => simp [intOf]; omega
              · have g15 : decide ((k : Int) < 15) = false := by simp; omega
                go_wp2_with fail
                go_roundw
                case rel => exact ⟨k + 1, ⟨N, li, lh⟩, [⟨⟨N, li, lh⟩, j⟩], by go_num, by omega, .inr ⟨rfl, hlm, hln, j, by omega, by omega, rfl⟩, HS5.out.out⟩
                case measure => simp [intOf]; omega
    · obtain rfl : k = l.length := by omega
      have HX := HS
      go_wp2_with fail
      refine Gives.mono' (HA.out _) ?_
      intro x3
      go_wp2_with fail
      go_ret
      exact ⟨rfl, Later.ex (below_later HX.out.qs.below HX.out.qs.below.size x3)⟩
end Go.Proofs.Ytlcmehighgmoeaa
