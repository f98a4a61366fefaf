/- The landed queue: takeOut. -/
import Derived.Test.YtlcmehighgmoeaaRumPut
import Derived.Test.YtlcmehighgmoeaaAppendAt
import Derived.Test.YtlcmehighgmoeaaClList
namespace Go.Proofs.Ytlcmehighgmoeaa
open Go Go.RowKit

theorem row_keeps {W W' : World} {b : Nat} {e : TypeId} {size : Nat} {v : Value} {k : Nat} {xs : List Value} (h : W.ownsRow b e size v k xs) (hk : ∀ g, v.ownBlock = some g → W'.heap[g]? = W.heap[g]?) : W'.ownsRow b e size v k xs := by
  refine ⟨h.1, ?_⟩
  rcases h.2 with h1 | ⟨g, cap, cur, rfl, hb, hg, rest⟩
  · exact .inl h1
  · exact .inr ⟨g, cap, cur, rfl, hb, (hk g rfl).trans hg, rest⟩
theorem row_lt {W : World} {b : Nat} {e : TypeId} {size : Nat} {v : Value} {k : Nat} {xs : List Value} (h : W.ownsRow b e size v k xs) : ∀ g, v.ownBlock = some g → g < W.heap.size := fun g hg => (h.lt g hg).2

theorem once_perm {L L' : List Td} (h : L.Perm L') (ho : Once L) : Once L' := h.pairwise ho (fun hxy => fun e => hxy e.symm)
theorem Picked.pop {L O rem xs : List Td} {x : Td} (h : Picked L O rem) (ho : Once L) (hp : (x :: xs).Perm rem) (hm : ∀ y ∈ rem, Le lessT x y) : Picked L (O ++ [x]) xs := by
  have hx : x ∈ rem := hp.subset (by simp)
  refine ⟨?_, ?_, ?_⟩
  · rw [List.append_assoc]
    exact (hp.append_left O).trans h.perm
  · rw [List.pairwise_append]
    refine ⟨h.sorted, by simp, fun y hy z hz => ?_⟩
    obtain rfl : z = x := by simpa using hz
    exact h.low y hy z hx
  · intro a ha y hy
    have hy' : y ∈ rem := hp.subset (by simp [hy])
    rcases List.mem_append.1 ha with h1 | h1
    · exact h.low a h1 y hy'
    · obtain rfl : a = x := by simpa using h1
      have hon : Once (O ++ rem) := once_perm h.perm.symm ho
      have hon2 : Once (a :: xs) := once_perm hp.symm ((List.pairwise_append.1 hon).2.1)
      have hne := (List.pairwise_cons.1 hon2).1 y hy
      have hle := hm y hy'
      unfold Le lessT at hle
      rw [decide_eq_false_iff_not] at hle
      exact Td.lt_total hle (fun e => hne e.symm)

/-- What is taken out, round by round. -/
structure OutInv (w : World) (q often : Nat) (F : Nat → Prop) (L O rem : List Td) (v : Value) (W : World) (F1 : Nat → Prop) : Prop where
  rum : RumQ q often rem W F1
  fr : Fr F w W
  sub : ∀ k, F1 k → F k ∨ w.heap.size ≤ k
  heap : IsHeap lessT rem.length rem
  row : W.ownsRow 0 60 4 v O.length (cellsT O)
  own : ∀ b, v.ownBlock = some b → w.heap.size ≤ b ∧ ¬ F1 b
  picked : Picked L O rem
theorem OutInv.len {w : World} {q often : Nat} {F : Nat → Prop} {L O rem : List Td} {v : Value} {W : World} {F1 : Nat → Prop} (h : OutInv w q often F L O rem v W F1) : O.length + rem.length = L.length := by
  have := h.picked.perm.length_eq
  rw [List.length_append] at this
  exact this
/-- A pop of the heap: what is left, what was popped, and the row as it was. -/
theorem OutInv.pop {w : World} {q often : Nat} {F : Nat → Prop} {L O rem : List Td} {v : Value} {W : World} {F1 : Nat → Prop} (h : OutInv w q often F L O rem v W F1) (ho : Once L) (hL : L.length ≤ 100) (hne : 0 < rem.length) :
    Calls Try.prog 35 #[.iface 62 (.pointer (some ⟨q, 1, none⟩))] W fun e W' => ∃ x xs F2, e = .returned (encT x) ∧ Fr F w W' ∧ RumQ q often xs W' F2 ∧ (∀ k, F2 k → F k ∨ w.heap.size ≤ k) ∧ IsHeap lessT xs.length xs ∧
      W'.ownsRow 0 60 4 v O.length (cellsT O) ∧ (∀ b, v.ownBlock = some b → w.heap.size ≤ b ∧ ¬ F2 b) ∧ Picked L (O ++ [x]) xs ∧ W.heap.size ≤ W'.heap.size := by
  have hlen := h.len
  refine (heapPop_any lessT_ordered (rheap q often F1 W) (rends q often F1 W) rem W ⟨rEnd_refl h.rum, by omega⟩ h.heap hne).mono ?_
  rintro e W' ⟨x, xs, he, ⟨⟨F2, h1, h2, h3⟩, _⟩, hp, hm, hi⟩
  have hlt := row_lt h.row
  refine ⟨x, xs, F2, he, h.fr.trans h2 h.sub, h1, fun k hk => ?_, hi, row_keeps h.row fun g hg => h2.block g (hlt g hg) (h.own g hg).2, fun b hb => ⟨(h.own b hb).1, fun hk => ?_⟩, h.picked.pop ho hp hm, h2.size⟩
  · rcases h3 k hk with h4 | h4
    · exact h.sub k h4
    · exact .inr (Nat.le_trans h.fr.size h4)
  · rcases h3 b hk with h4 | h4
    · exact (h.own b hb).2 h4
    · have := hlt b hb; omega
theorem out_append {w : World} {q often : Nat} {F : Nat → Prop} {L O xs : List Td} {x : Td} {v v' : Value} {W W' : World} {F2 : Nat → Prop} {ob : Obj} (hfr : Fr F w W) (hq : RumQ q often xs W F2) (hs : ∀ k, F2 k → F k ∨ w.heap.size ≤ k) (hi : IsHeap lessT xs.length xs)
    (hb : ∀ b, v.ownBlock = some b → w.heap.size ≤ b ∧ ¬ F2 b) (hp : Picked L (O ++ [x]) xs)
    (hown : W'.ownsRow 0 60 4 v' (O.length + 1) (cellsT O ++ cells4 x)) (hg : (W.alloc ob).grownBy W' v.ownBlock) (hw : ∀ g, v'.ownBlock = some g → v.ownBlock = some g ∨ (W.alloc ob).heap.size ≤ g) :
    OutInv w q often F L (O ++ [x]) xs v' W' F2 := by
  have hlt := (rumQ_owns q often xs).lt W F2 hq
  have h1 : W.heap.size ≤ (W.alloc ob).heap.size := by simp
  refine ⟨(rumQ_owns q often xs).kept W W' F2 hq (Nat.le_trans h1 hg.size) fun k hk => ?_, ?_, hs, hi, ?_, fun b hb' => ?_, hp⟩
  · refine (hg.block k (Nat.lt_of_lt_of_le (hlt k hk) h1) fun e => ?_).trans (Below.heap_alloc _ _ _ (hlt k hk))
    exact (hb k e.symm).2 hk
  · exact (hfr.alloc ob).trans (G := fun j => w.heap.size ≤ j) (Fr.of_grownBy hg fun j hj => .inl (hb j hj).1) fun j hj => .inr hj
  · rw [List.length_append, cellsT_snoc]
    exact hown
  · rcases hw b hb' with h | h
    · exact hb b h
    · exact ⟨Nat.le_trans hfr.size (Nat.le_trans h1 h), fun hk => by have := hlt b hk; omega⟩

def OutEnd (q often : Nat) (L : List Td) (n : Int) (F : Nat → Prop) (w : World) (e : Ending) (w' : World) : Prop := ∃ v O rem F1, e = .returned v ∧ OutInv w q often F L O rem v w' F1 ∧ (O.length : Int) = min (max n 0) L.length

set_option maxHeartbeats 4000000 in
set_option maxRecDepth 100000 in
theorem takeOut_any (q often : Nat) (L : List Td) (n : Int) (w : World) (F : Nat → Prop) (h : RumQ q often L w F) (hh : IsHeap lessT L.length L) (hL : L.length ≤ 100) (hO : Once L) :
    Calls Try.prog 23 #[.pointer (some ⟨q, 1, none⟩), .int .i64 n] w (OutEnd q often L n F w) := by
  obtain ⟨i0, hi, hz0, hz1, hz2⟩ := info_parts infoTelling
  obtain ⟨p, cap, hc⟩ := h.cells
  have hlt := hc.lt
  have e1 := hc.h1
  have H0 := Lib.hid (show OutInv w q often F L [] L (.slice none 0 0) w F from ⟨h, Fr.refl _ _, fun k hk => .inl hk, hh, World.ownsRow_nil _ _ _ _, fun b hb => by simp [Value.ownBlock] at hb, Picked.nil L⟩)
  have HOn := Lib.hid hO
  clear h hh hc hO
  by_cases hn : n ≤ (L.length : Int)
  · have hM : min n (L.length : Int) = n := by omega
    have HM := Lib.hid hM
    clear hM
    go_enter Try.func23, Try.ntmps23
    go_wp2_with fail
    clear e1
    go_loopw [5, 12] (fun v5 v12 wr => ∃ O rem F1, v12 = .int .i64 O.length ∧ OutInv w q often F L O rem v5 wr F1 ∧ (O.length : Int) ≤ max n 0) (fun v5 v12 _ => L.length - (intOf v12).toNat)
    case atStart => exact ⟨[], L, F, rfl, H0.out, by simp <;> omega⟩
    case round =>
      obtain ⟨O, rem, F1, rfl, hinv, hle⟩ := hrel
      have hlen := hinv.len
      have hrow := hinv.row
      obtain ⟨p5, c5, rfl⟩ := ownsRow_form hrow
      by_cases hk : (O.length : Int) < n
      · have HP := Lib.hid (hinv.pop HOn.out hL (by omega))
        clear hinv hrow H0
        obtain ⟨K, hK⟩ : ∃ K : Nat, O.length = K := ⟨_, rfl⟩
        have HK := Lib.hid hK
        obtain ⟨v5, hv5⟩ : ∃ v, Value.slice p5 O.length c5 = v := ⟨_, rfl⟩
        rw [hv5] at HP ⊢
        have HV5 := Lib.hid hv5
        clear hv5
        rw [hK] at hk hle hlen ⊢
        clear hK
        go_wp2_with fail
        refine HP.out.mono ?_
        rintro e w1 ⟨x, xs, F2, rfl, hfr, hrum, hsub, hhp, hrow, hb, hpk, hsz⟩
        obtain ⟨⟨xn, xi, xh⟩, xt⟩ := x
        unfold encT
        dsimp only
        obtain ⟨T, hT⟩ : ∃ T : Int, (xt : Int) = T := ⟨_, rfl⟩
        have HT := Lib.hid hT
        rw [hT]
        have hcn := cell_four_new w1 (.int .i64 xn) (.int .i64 xi) (.int .i64 xh) (.int .i64 T) 60
        have HCN := Lib.hid hcn
        have HR := Lib.hid hrow
        have HAll := Lib.hid (And.intro hfr (And.intro hrum (And.intro hsub (And.intro hhp (And.intro hb hpk)))))
        clear hT hcn hrow hfr hrum hsub hhp hb hpk HP
        go_wp2_with (at_builtin; refine wpList_append_where rfl _ _ 54 rfl 60 i0 (.agg #[.int .i64 0, .int .i64 0, .int .i64 0, .int .i64 0]) 4 32 Try.underlying54 hi hz0 hz1 hz2 rfl (by decide) v5 O.length (cellsT O) rfl (HR.out.alloc _) ⟨w1.heap.size, 0, none⟩ 1 1 [.int .i64 xn, .int .i64 xi, .int .i64 xh, .int .i64 T] rfl rfl HCN.out (by simp [Value.oneCell']) (by have := HK.out; unfold maxLen; omega) (by have := HK.out; omega) ?_; intro v' w5 hown' hgrow hwh; have HO1 := Lib.hid hown'; have HG := Lib.hid hgrow; have HW := Lib.hid hwh; clear hown' hgrow hwh)
        go_roundw
        case rel =>
          obtain ⟨hfr, hrum, hsub, hhp, hb, hpk⟩ := HAll.out
          have hT := HT.out
          have hK := HK.out
          subst hT
          exact ⟨O ++ [⟨⟨xn, xi, xh⟩, xt⟩], xs, F2, by rw [List.length_append]; simp; omega, out_append (x := ⟨⟨xn, xi, xh⟩, xt⟩) hfr hrum hsub hhp hb hpk HO1.out HG.out HW.out, by rw [List.length_append]; simp; omega⟩
        case measure => simp [intOf]; omega
      · have HI := Lib.hid hinv
        clear hinv hrow
        have hfin : (O.length : Int) = min (max n 0) L.length := by have := HM.out; omega
        have HF := Lib.hid hfin
        clear hfin
        go_wp2_with fail
        go_ret
        exact ⟨_, O, rem, F1, rfl, HI.out, HF.out⟩
  · have hM : min n (L.length : Int) = (L.length : Int) := by omega
    have HM := Lib.hid hM
    clear hM
    go_enter Try.func23, Try.ntmps23
    go_wp2_with fail
    clear e1
    go_loopw [5, 12] (fun v5 v12 wr => ∃ O rem F1, v12 = .int .i64 O.length ∧ OutInv w q often F L O rem v5 wr F1 ∧ (O.length : Int) ≤ max (L.length : Int) 0) (fun v5 v12 _ => L.length - (intOf v12).toNat)
    case atStart => exact ⟨[], L, F, rfl, H0.out, by simp <;> omega⟩
    case round =>
      obtain ⟨O, rem, F1, rfl, hinv, hle⟩ := hrel
      have hlen := hinv.len
      have hrow := hinv.row
      obtain ⟨p5, c5, rfl⟩ := ownsRow_form hrow
      by_cases hk : (O.length : Int) < (L.length : Int)
      · have HP := Lib.hid (hinv.pop HOn.out hL (by omega))
        clear hinv hrow H0
        obtain ⟨K, hK⟩ : ∃ K : Nat, O.length = K := ⟨_, rfl⟩
        have HK := Lib.hid hK
        obtain ⟨v5, hv5⟩ : ∃ v, Value.slice p5 O.length c5 = v := ⟨_, rfl⟩
        rw [hv5] at HP ⊢
        have HV5 := Lib.hid hv5
        clear hv5
        rw [hK] at hk hle hlen ⊢
        clear hK
        go_wp2_with fail
        refine HP.out.mono ?_
        rintro e w1 ⟨x, xs, F2, rfl, hfr, hrum, hsub, hhp, hrow, hb, hpk, hsz⟩
        obtain ⟨⟨xn, xi, xh⟩, xt⟩ := x
        unfold encT
        dsimp only
        obtain ⟨T, hT⟩ : ∃ T : Int, (xt : Int) = T := ⟨_, rfl⟩
        have HT := Lib.hid hT
        rw [hT]
        have hcn := cell_four_new w1 (.int .i64 xn) (.int .i64 xi) (.int .i64 xh) (.int .i64 T) 60
        have HCN := Lib.hid hcn
        have HR := Lib.hid hrow
        have HAll := Lib.hid (And.intro hfr (And.intro hrum (And.intro hsub (And.intro hhp (And.intro hb hpk)))))
        clear hT hcn hrow hfr hrum hsub hhp hb hpk HP
        go_wp2_with (at_builtin; refine wpList_append_where rfl _ _ 54 rfl 60 i0 (.agg #[.int .i64 0, .int .i64 0, .int .i64 0, .int .i64 0]) 4 32 Try.underlying54 hi hz0 hz1 hz2 rfl (by decide) v5 O.length (cellsT O) rfl (HR.out.alloc _) ⟨w1.heap.size, 0, none⟩ 1 1 [.int .i64 xn, .int .i64 xi, .int .i64 xh, .int .i64 T] rfl rfl HCN.out (by simp [Value.oneCell']) (by have := HK.out; unfold maxLen; omega) (by have := HK.out; omega) ?_; intro v' w5 hown' hgrow hwh; have HO1 := Lib.hid hown'; have HG := Lib.hid hgrow; have HW := Lib.hid hwh; clear hown' hgrow hwh)
        go_roundw
        case rel =>
          obtain ⟨hfr, hrum, hsub, hhp, hb, hpk⟩ := HAll.out
          have hT := HT.out
          have hK := HK.out
          subst hT
          exact ⟨O ++ [⟨⟨xn, xi, xh⟩, xt⟩], xs, F2, by rw [List.length_append]; simp; omega, out_append (x := ⟨⟨xn, xi, xh⟩, xt⟩) hfr hrum hsub hhp hb hpk HO1.out HG.out HW.out, by rw [List.length_append]; simp; omega⟩
        case measure => simp [intOf]; omega
      · have HI := Lib.hid hinv
        clear hinv hrow
        have hfin : (O.length : Int) = min (max n 0) L.length := by have := HM.out; omega
        have HF := Lib.hid hfin
        clear hfin
        go_wp2_with fail
        go_ret
        exact ⟨_, O, rem, F1, rfl, HI.out, HF.out⟩
end Go.Proofs.Ytlcmehighgmoeaa
