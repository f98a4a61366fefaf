/- SwimTells for every input: whatever the arguments, the law answers true, and nothing that was there has turned. -/
import Derived.Test.YtjbihgfdgaiecaaPI
import Derived.Test.YtjbihgfdgaiecaaChecked
import Derived.Test.YtjbihgfdgaiecaaRows
namespace Go.Proofs.Ytjbihgfdgaiecaa
open Go Go.RowKit Go.BigFrame

theorem may_c {K h : Int} (hK : 0 ≤ K ∧ K < 1000) (hh : h = 2 ∨ h = 3) : mayK ⟨1, K, h⟩ = true := by
  simp only [mayK, mayB, decide_eq_true_eq]; omega
theorem not_c {K h : Int} (hh : h = 2 ∨ h = 3) : nothingK ⟨1, K, h⟩ = false := by
  simp only [nothingK, nothingB, decide_eq_false_iff_not]; omega
theorem cmp_pos {i h : Int} (hK : 0 ≤ i) (hh : h = 1 ∨ h = 2 ∨ h = 3) : 0 < cmpC i h 0 0 := by
  unfold cmpC
  rw [if_neg (by omega), if_neg (by decide)]
  unfold orI Lib.compareInt
  rcases hh with rfl | rfl | rfl <;> (repeat' split) <;> omega
theorem cmp_up {i h g : Int} (hh : h = 1 ∨ h = 2 ∨ h = 3) (hg : g = 1 ∨ g = 2 ∨ g = 3) : 0 < cmpC (i + 1) h i g := by
  unfold cmpC
  rw [if_neg (by omega), if_neg (by omega)]
  unfold orI Lib.compareInt
  (repeat' split) <;> omega
theorem heard_c {K h : Int} (hK : 0 ≤ K ∧ K < 1000) (hh : h = 2 ∨ h = 3) : heardB (newD 0 3).V ⟨1, K, h⟩ = true := by
  unfold heardB
  rw [may_c hK hh]
  show (true && decide (0 < cmpC K h 0 0)) = true
  rw [decide_eq_true (cmp_pos hK.1 (by omega))]
  rfl
theorem q1 {K h : Int} (hK : 0 ≤ K ∧ K < 1000) (hh : h = 2 ∨ h = 3) : qput [] ⟨1, K, h⟩ = [⟨⟨1, K, h⟩, 0⟩] := by
  unfold qput putOf
  rw [if_neg (by rw [may_c hK hh, not_c hh]; simp)]
  rfl
def A1 (K h : Int) : DS := { newD 0 3 with V := putV (newD 0 3).V ⟨1, K, h⟩, Q := [⟨⟨1, K, h⟩, 0⟩], C := if h = 2 then [⟨101, 6⟩] else [] }
theorem hear1 {K h : Int} (hK : 0 ≤ K ∧ K < 1000) (hh : h = 2 ∨ h = 3) : (hearCall (newD 0 3) ⟨1, K, h⟩).1 = A1 K h := by
  unfold hearCall
  rw [if_neg (by rw [may_c hK hh, not_c hh]; simp)]
  unfold hearD
  rw [if_neg (by simp [newD]), if_pos (heard_c hK hh)]
  have h1 : hearV (newD 0 3).V ⟨1, K, h⟩ = putV (newD 0 3).V ⟨1, K, h⟩ := by unfold hearV; rw [if_pos (heard_c hK hh)]
  have h2 : qput (newD 0 3).Q ⟨1, K, h⟩ = [⟨⟨1, K, h⟩, 0⟩] := q1 hK hh
  rw [h1, h2]
  rfl
theorem tick1 {K h : Int} (hh : h = 2 ∨ h = 3) (draw : Int) : (tickD (A1 K h) [1] draw).2 = [⟨1, 0, 1, 1, 0, 0, [⟨0, 3, 1⟩, ⟨1, K, h⟩, ⟨1, K, h⟩]⟩] := by
  rcases hh with rfl | rfl <;> rfl
theorem tick1V {K h : Int} (hh : h = 2 ∨ h = 3) (draw : Int) : (tickD (A1 K h) [1] draw).1.V = putV (newD 0 3).V ⟨1, K, h⟩ ∧ (tickD (A1 K h) [1] draw).1.self = 0 ∧ (tickD (A1 K h) [1] draw).1.inc = 3 := by
  rcases hh with rfl | rfl <;> exact ⟨rfl, rfl, rfl⟩
/-- Who is told. -/
def N1 (K : Int) : DS := { newD 1 0 with inc := K, V := putV view0 ⟨1, K, 1⟩ }
theorem may_one {K n : Int} (hK : 0 ≤ K ∧ K ≤ 1000) (hn : 0 ≤ n ∧ n < 8) : mayK ⟨n, K, 1⟩ = true := by
  simp only [mayK, mayB, decide_eq_true_eq]; omega
theorem not_one {K n : Int} : nothingK ⟨n, K, 1⟩ = false := by
  simp only [nothingK, nothingB, decide_eq_false_iff_not]; omega
theorem new1 {K : Int} (hK : 0 ≤ K ∧ K < 1000) : newD 1 K = N1 K := by
  have h1 : hearV view0 ⟨1, K, 1⟩ = putV view0 ⟨1, K, 1⟩ := by
    unfold hearV heardB
    rw [may_one (by omega) (by omega)]
    show (if (true && decide (0 < cmpC K 1 0 0)) = true then _ else _) = _
    rw [decide_eq_true (cmp_pos hK.1 (.inl rfl))]
    rfl
  unfold newD N1
  rw [h1]
  rfl
def N2 (K : Int) : DS := { N1 K with V := putV (N1 K).V ⟨0, 3, 1⟩, Q := [⟨⟨0, 3, 1⟩, 0⟩] }
theorem hearN1 (K : Int) : (hearD (N1 K) ⟨0, 3, 1⟩).1 = N2 K := by rfl
def N3 (K : Int) : DS := { N2 K with inc := K + 1, V := putV (N2 K).V ⟨1, K + 1, 1⟩, Q := [⟨⟨0, 3, 1⟩, 0⟩, ⟨⟨1, K + 1, 1⟩, 0⟩] }
theorem ref_up {K h : Int} (hK : 0 ≤ K ∧ K < 1000) (hh : h = 2 ∨ h = 3) : refE 1 K 1 K h = 0 ∧ refN 1 K 1 K h = K + 1 := by
  unfold refE refN
  have h1 : ¬ ¬ (((0 : Int) ≤ 1 ∧ (1 : Int) < 8) ∧ (0 ≤ K ∧ K ≤ 1000000) ∧ (((0 : Int) ≤ 1 ∧ (1 : Int) < 8) ∧ ((K = 0 ∧ h = 0) ∨ ((0 ≤ K ∧ K ≤ 1000000) ∧ 1 ≤ h ∧ h ≤ 4)))) := by simp only [Classical.not_not]; omega
  rw [if_neg h1, if_neg h1, if_neg (by omega), if_neg (by omega), if_neg (by omega), if_neg (by omega)]
  exact ⟨rfl, rfl⟩
theorem ref_low {K h : Int} (hK : 0 ≤ K ∧ K < 1000) (hh : h = 2 ∨ h = 3) : refE 1 (K + 1) 1 K h = 0 ∧ refN 1 (K + 1) 1 K h = K + 1 := by
  unfold refE refN
  have h1 : ¬ ¬ (((0 : Int) ≤ 1 ∧ (1 : Int) < 8) ∧ (0 ≤ K + 1 ∧ K + 1 ≤ 1000000) ∧ (((0 : Int) ≤ 1 ∧ (1 : Int) < 8) ∧ ((K = 0 ∧ h = 0) ∨ ((0 ≤ K ∧ K ≤ 1000000) ∧ 1 ≤ h ∧ h ≤ 4)))) := by simp only [Classical.not_not]; omega
  rw [if_neg h1, if_neg h1, if_pos (by omega), if_pos (by omega)]
  exact ⟨rfl, rfl⟩
theorem hearN2 {K h : Int} (hK : 0 ≤ K ∧ K < 1000) (hh : h = 2 ∨ h = 3) : (hearD (N2 K) ⟨1, K, h⟩).1 = N3 K := by
  obtain ⟨e1, e2⟩ := ref_up hK hh
  have hs : (N2 K).self = 1 := rfl
  have hi : (N2 K).inc = K := rfl
  unfold hearD
  dsimp only
  rw [if_pos hs.symm, hs, hi, e1, if_neg (by decide), e2, if_pos (by omega)]
  have h1 : hearV (N2 K).V ⟨1, K + 1, 1⟩ = putV (N2 K).V ⟨1, K + 1, 1⟩ := by
    unfold hearV heardB
    rw [may_one (by omega) (by omega)]
    show (if (true && decide (0 < cmpC (K + 1) 1 K 1)) = true then _ else _) = _
    rw [decide_eq_true (cmp_up (.inl rfl) (.inl rfl))]
    rfl
  have h2 : qput (N2 K).Q ⟨1, K + 1, 1⟩ = [⟨⟨0, 3, 1⟩, 0⟩, ⟨⟨1, K + 1, 1⟩, 0⟩] := by
    unfold qput putOf
    rw [if_neg (by rw [may_one (by omega) (by omega), not_one]; simp)]
    rfl
  unfold DS.tell
  dsimp only
  rw [h1, h2]
  rfl
theorem hearN3 {K h : Int} (hK : 0 ≤ K ∧ K < 1000) (hh : h = 2 ∨ h = 3) : (hearD (N3 K) ⟨1, K, h⟩).1 = N3 K := by
  obtain ⟨e1, e2⟩ := ref_low hK hh
  have hs : (N3 K).self = 1 := rfl
  have hi : (N3 K).inc = K + 1 := rfl
  unfold hearD
  dsimp only
  rw [if_pos hs.symm, hs, hi, e1, if_neg (by decide), e2, if_neg (by omega)]
theorem heardMN {K h : Int} (hK : 0 ≤ K ∧ K < 1000) (hh : h = 2 ∨ h = 3) : heardM (N1 K) [⟨0, 3, 1⟩, ⟨1, K, h⟩, ⟨1, K, h⟩] = N3 K := by
  have hf : ([⟨0, 3, 1⟩, ⟨1, K, h⟩, ⟨1, K, h⟩] : List Cl).filter mayK = [⟨0, 3, 1⟩, ⟨1, K, h⟩, ⟨1, K, h⟩] := by
    have h0 : mayK ⟨0, 3, 1⟩ = true := rfl
    simp [List.filter_cons, may_c hK hh, h0]
  unfold heardM
  rw [hf]
  show (if nothingK ⟨1, K, h⟩ = true then (if nothingK ⟨1, K, h⟩ = true then (hearD (N1 K) ⟨0, 3, 1⟩).1 else (hearD (hearD (N1 K) ⟨0, 3, 1⟩).1 ⟨1, K, h⟩).1) else (hearD (if nothingK ⟨1, K, h⟩ = true then (hearD (N1 K) ⟨0, 3, 1⟩).1 else (hearD (hearD (N1 K) ⟨0, 3, 1⟩).1 ⟨1, K, h⟩).1) ⟨1, K, h⟩).1) = N3 K
  rw [not_c hh, if_neg (by decide), if_neg (by decide), hearN1, hearN2 hK hh, hearN3 hK hh]
theorem fromN (K : Int) : fromD (N3 K) 0 = N3 K := by rfl
def M1 (h K : Int) : MM := ⟨1, 0, 1, 1, 0, 0, [⟨0, 3, 1⟩, ⟨1, K, h⟩, ⟨1, K, h⟩]⟩
theorem hand1 {K h : Int} (hK : 0 ≤ K ∧ K < 1000) (hh : h = 2 ∨ h = 3) : handleD (newD 1 K) (M1 h K) = (sentD (N3 K), [⟨2, 1, 0, 1, 0, 0, [⟨1, K + 1, 1⟩, ⟨0, 3, 1⟩, ⟨1, K + 1, 1⟩]⟩]) := by
  rw [new1 hK]
  unfold handleD
  have hg : ¬ ((M1 h K).dst ≠ (N1 K).self ∨ nodeB (M1 h K).frm = false ∨ (M1 h K).frm = (N1 K).self) := by show ¬ ((1 : Int) ≠ 1 ∨ nodeB 0 = false ∨ (0 : Int) = 1); decide
  rw [if_neg hg]
  have h1 : fromD (heardM (N1 K) (M1 h K).claims) (M1 h K).frm = N3 K := by
    show fromD (heardM (N1 K) [⟨0, 3, 1⟩, ⟨1, K, h⟩, ⟨1, K, h⟩]) 0 = _
    rw [heardMN hK hh, fromN]
  rw [h1]
  rfl
def M2 (K : Int) : MM := ⟨2, 1, 0, 1, 0, 0, [⟨1, K + 1, 1⟩, ⟨0, 3, 1⟩, ⟨1, K + 1, 1⟩]⟩
theorem heard_up {V : Vw} {K h : Int} (hK : 0 ≤ K ∧ K < 1000) (hh : h = 2 ∨ h = 3) (hV : V 1 = ⟨1, K, h⟩) : heardB V ⟨1, K + 1, 1⟩ = true := by
  unfold heardB
  rw [may_one (by omega) (by omega)]
  show (true && decide (0 < cmpK ⟨1, K + 1, 1⟩ (V 1))) = true
  rw [hV]
  show (true && decide (0 < cmpC (K + 1) 1 K h)) = true
  rw [decide_eq_true (cmp_up (.inl rfl) (by omega))]
  rfl
theorem heard_same {V : Vw} {K : Int} (hV : V 1 = ⟨1, K, 1⟩) : heardB V ⟨1, K, 1⟩ = false := by
  unfold heardB
  show (_ && decide (0 < cmpK ⟨1, K, 1⟩ (V 1))) = false
  rw [hV]
  show (_ && decide (0 < cmpC K 1 K 1)) = false
  rw [cmpC_self]
  simp
theorem hear_same {s : DS} {K : Int} (hs : s.self = 0) (hV : s.V 1 = ⟨1, K, 1⟩) : (hearD s ⟨1, K, 1⟩).1 = s := by
  unfold hearD
  rw [if_neg (by rw [hs]; show ¬ (1 : Int) = 0; decide), heard_same hV]
  rfl
theorem hear_own {s : DS} (hs : s.self = 0) (hi : s.inc = 3) : (hearD s ⟨0, 3, 1⟩).1 = s := by
  unfold hearD
  rw [if_pos hs.symm, hs, hi]
  rfl
theorem answer {s : DS} {K h : Int} (hK : 0 ≤ K ∧ K < 1000) (hh : h = 2 ∨ h = 3) (hs : s.self = 0) (hi : s.inc = 3) (hV : s.V 1 = ⟨1, K, h⟩) : ofV (handleD s (M2 K)).1.V 1 = ⟨1, K + 1, 1⟩ := by
  have e1 : (hearD s ⟨1, K + 1, 1⟩).1.V 1 = ⟨1, K + 1, 1⟩ ∧ (hearD s ⟨1, K + 1, 1⟩).1.self = 0 ∧ (hearD s ⟨1, K + 1, 1⟩).1.inc = 3 := by
    have hb := heard_up hK hh hV
    unfold hearD
    rw [if_neg (by rw [hs]; show ¬ (1 : Int) = 0; decide), if_pos hb]
    refine ⟨?_, hs, hi⟩
    show hearV s.V ⟨1, K + 1, 1⟩ 1 = _
    unfold hearV
    rw [if_pos hb]
    rfl
  obtain ⟨s1, hs1⟩ : ∃ t, (hearD s ⟨1, K + 1, 1⟩).1 = t := ⟨_, rfl⟩
  rw [hs1] at e1
  obtain ⟨v1, f1, i1⟩ := e1
  have hm : heardM s (M2 K).claims = s1 := by
    have hf : ([⟨1, K + 1, 1⟩, ⟨0, 3, 1⟩, ⟨1, K + 1, 1⟩] : List Cl).filter mayK = [⟨1, K + 1, 1⟩, ⟨0, 3, 1⟩, ⟨1, K + 1, 1⟩] := by
      have h0 : mayK ⟨0, 3, 1⟩ = true := rfl
      have h1 : mayK ⟨1, K + 1, 1⟩ = true := may_one (by omega) (by omega)
      simp [List.filter_cons, h0, h1]
    unfold heardM
    show (((List.filter mayK [⟨1, K + 1, 1⟩, ⟨0, 3, 1⟩, ⟨1, K + 1, 1⟩]).take 4).foldl (fun s c => if nothingK c then s else (hearD s c).1) s) = s1
    rw [hf]
    show (if nothingK ⟨1, K + 1, 1⟩ = true then _ else (hearD (hearD (if nothingK ⟨1, K + 1, 1⟩ = true then s else (hearD s ⟨1, K + 1, 1⟩).1) ⟨0, 3, 1⟩).1 ⟨1, K + 1, 1⟩).1) = s1
    rw [not_one, if_neg (by decide), if_neg (by decide), hs1, hear_own f1 i1, hear_same f1 v1]
  have hfr : fromD s1 1 = s1 := by
    unfold fromD
    have : ofV s1.V 1 = ⟨1, K + 1, 1⟩ := by
      unfold ofV
      rw [if_pos (by decide)]
      show (⟨1, (s1.V 1).i, (s1.V 1).h⟩ : Cl) = _
      rw [v1]
    rw [this, if_neg (show ¬ (1 : Int) = 4 by decide)]
    exact hear_same f1 v1
  unfold handleD
  have hg : ¬ ((M2 K).dst ≠ s.self ∨ nodeB (M2 K).frm = false ∨ (M2 K).frm = s.self) := by rw [hs]; show ¬ ((0 : Int) ≠ 0 ∨ nodeB 1 = false ∨ (1 : Int) = 0); decide
  rw [if_neg hg, hm]
  show ofV (if (M2 K).kind = 2 ∧ (M2 K).for' = (fromD s1 1).self then _ else _ : DS × List MM).1.V 1 = _
  rw [hfr, if_pos ⟨rfl, f1.symm⟩]
  have hv : ofV s1.V 1 = ⟨1, K + 1, 1⟩ := by
    unfold ofV
    rw [if_pos (by decide)]
    show (⟨1, (s1.V 1).i, (s1.V 1).h⟩ : Cl) = _
    rw [v1]
  have hw : ofV (fromD s1 (M2 K).frm).V 1 = ⟨1, K + 1, 1⟩ := by
    have e : fromD s1 (M2 K).frm = s1 := hfr
    rw [e]
    exact hv
  split
  · exact hw
  · exact hw
end Go.Proofs.Ytjbihgfdgaiecaa

/- SwimTells: its walk. -/
namespace Go.Proofs.Ytjbihgfdgaiecaa
open Go Go.RowKit Go.BigFrame

theorem lok_A1 {K h : Int} : LOk (A1 K h) := ⟨show 0 ≤ (0 : Int) ∧ (0 : Int) < 8 by decide, show 0 ≤ (3 : Int) ∧ (3 : Int) ≤ 1000000 by decide, show 0 ≤ (0 : Int) ∧ (0 : Int) ≤ 100000 by decide, show 0 ≤ (0 : Int) ∧ (0 : Int) ≤ 1000000 by decide, show -1 ≤ (-1 : Int) ∧ (-1 : Int) < 8 by decide⟩
theorem lok_T1 {K h : Int} (hh : h = 2 ∨ h = 3) (draw : Int) : LOk (tickD (A1 K h) [1] draw).1 := by
  rcases hh with rfl | rfl <;> exact ⟨show 0 ≤ (0 : Int) ∧ (0 : Int) < 8 by decide, show 0 ≤ (3 : Int) ∧ (3 : Int) ≤ 1000000 by decide, show 0 ≤ (1 : Int) ∧ (1 : Int) ≤ 100000 by decide, show 0 ≤ (1 : Int) ∧ (1 : Int) ≤ 1000000 by decide, show -1 ≤ (1 : Int) ∧ (1 : Int) < 8 by decide⟩
set_option maxHeartbeats 4000000 in
set_option maxRecDepth 100000 in
theorem tells_d (inc : Int) (dead : Bool) (draw : Int) (hd0 : 0 ≤ draw) (hd1 : draw < 18446744073709551616) : Does Try.prog 7 #[.int .i64 inc, .bool dead, .int .u64 draw] [] (.bool true) [] := by
  intro w H hp
  have HM0 := Lib.hid (mem_refl hp)
  clear hp
  go_enter Try.func7, Try.ntmps7
  refine wp_seq ?_
  refine wp_region_N [(0, 1)] (by kernel_rfl) ?_
  refine wpS_this [0] rfl (by kernel_rfl) (by simp only [pickL, nthL, List.cons_append, List.nil_append]; rfl) ?_
  repeat (go_big_quiet_step (fail))
  refine wpQuiet_nil ?_
  refine wpS_nil ?_
  refine then_normal ?_
  refine wp_seq ?_
  obtain ⟨K0, hK0, hm0, hm0'⟩ := mod_small 1000 (by decide) (by decide) inc
  refine wp_region_N [(0, 1), (1, 1), (2, 1), (3, 1), (4, 1)] (by kernel_rfl) ?_
  refine wpS_this [0, 1, 2, 3, 4] rfl (by kernel_rfl) (by simp only [pickL, nthL, List.cons_append, List.nil_append]; rfl) ?_
  repeat (go_big_quiet_step (fail))
  refine wpQuiet_nil ?_
  refine wpS_nil ?_
  refine then_normal ?_
  refine wp_seq ?_
  rw [hm0]
  obtain ⟨K, hKe⟩ : ∃ x : Int, (K0 : Int) = x := ⟨_, rfl⟩
  rw [hKe]
  have hK : 0 ≤ K ∧ K < 1000 := by omega
  clear hm0 hm0' hKe hK0
  refine wp_region_N [(0, 3), (1, 1), (2, 3), (3, 1), (4, 1)] (by kernel_rfl) ?_
  refine wpS_doesU2 (i := 0) (d := some 16) (rem := []) rfl (by rfl) rfl Try.call21 (new_d 0 3 (by decide) (by decide)) rfl rfl HM0.out [] rfl covS_nil (fun _ => rfl) rfl ?_
  rintro u3 W2 hm1 -
  obtain ⟨ba, hm1e⟩ := Mem.ex hm1
  clear hm1
  obtain ⟨hm1u, hm1⟩ := Mem.pr hm1e
  clear hm1e
  subst hm1u
  have HM4 := Lib.hid hm1
  clear hm1
  simp only [Act.put, List.setIfInBounds_toArray, List.set_cons_succ, List.set_cons_zero]
  refine wpS_this [1] rfl (by kernel_rfl) (by simp only [pickL, nthL, List.cons_append, List.nil_append]; rfl) ?_
  repeat (go_big_quiet_step (fail))
  refine wpQuiet_nil ?_
  refine wpS_doesU2 (i := 2) (d := some 18) (rem := [_, _, _, _, _]) rfl (by rfl) rfl Try.call21 (new_d 1 K (by decide) (by omega)) rfl rfl HM4.out [] rfl covS_nil (fun _ => rfl) rfl ?_
  rintro u7 W6 hm5 -
  obtain ⟨bb, hm5e⟩ := Mem.ex hm5
  clear hm5
  obtain ⟨hm5u, hm5⟩ := Mem.pr hm5e
  clear hm5e
  subst hm5u
  have HM8 := Lib.hid hm5
  clear hm5
  simp only [Act.put, List.setIfInBounds_toArray, List.set_cons_succ, List.set_cons_zero]
  refine wpS_this [3, 4] rfl (by kernel_rfl) (by simp only [pickL, nthL, List.cons_append, List.nil_append]; rfl) ?_
  repeat (go_big_quiet_step (fail))
  refine wpQuiet_nil ?_
  refine wpS_nil ?_
  refine then_normal ?_
  refine wp_seq ?_
  refine wp_region_N [(0, 1), (1, 1), (2, 3), (3, 3)] (by kernel_rfl) ?_
  refine wpS_this [0, 1] rfl (by kernel_rfl) (by simp only [pickL, nthL, List.cons_append, List.nil_append]; rfl) ?_
  repeat (go_big_quiet_step (fail))
  refine wpQuiet_nil ?_
  refine wpS_alloc (i := 2) (dd := 9) (z := .agg #[.int .i64 0, .int .i64 0, .int .i64 0]) (cs := #[.int .i64 0, .int .i64 0, .int .i64 0]) rfl (by rfl) rfl (by kernel_rfl) rfl HM8.out covS_nil rfl ?_
  rintro b11 W10 hm9 -
  have HM12 := Lib.hid hm9
  clear hm9
  simp only [Act.put, List.setIfInBounds_toArray, List.set_cons_succ, List.set_cons_zero]
  refine wpS_storeA (i := 3) (L2 := [_, _, _, _, _, _, _, _, _, _]) (cs' := [_, _, _]) rfl (by rfl) rfl rfl rfl (by kernel_rfl) (by rfl) HM12.out 0 rfl rfl rfl rfl covS_nil rfl ?_
  rintro W14 hm13 -
  have HM15 := Lib.hid hm13
  clear hm13
  refine wpS_nil ?_
  refine then_normal ?_
  refine wp_seq ?_
  refine wp_seq ?_
  cases dead
  · have hh : (2 : Int) = 2 ∨ (2 : Int) = 3 := .inl rfl
    refine wp_region_N [(0, 1)] (by kernel_rfl) ?_
    refine wpS_this [0] rfl (by kernel_rfl) (by simp only [pickL, nthL, List.cons_append, List.nil_append]; rfl) ?_
    repeat (go_big_quiet_step (fail))
    refine wpQuiet_nil ?_
    refine wpS_nil ?_
    refine then_normal ?_
    refine wp_cond_false rfl ?_
    refine wp_skip ?_
    refine then_normal ?_
    refine wp_seq ?_
    refine wp_region_N [(0, 1), (1, 1), (2, 3)] (by kernel_rfl) ?_
    have Cb9 := Mem.cell HM15.out 0 rfl
    refine wpS_this [0, 1] rfl (by kernel_rfl) (by simp only [pickL, nthL, List.cons_append, List.nil_append]; rfl) ?_
    repeat (go_big_quiet_step (fail))
    refine wpQuiet_nil ?_
    clear Cb9
    refine wpS_does2 (i := 2) (d := some 25) (rem := [_, _, _, _, _, _]) (out := [_, _, _, _, _, _, _, _, _, _, _]) rfl (by rfl) rfl Try.call11 (hearCall_d ba.d (newD 0 3) ba.pv ba.pq ba.po ba.pc 1 K 2 (lok_new (by decide) (by decide))) rfl rfl HM15.out [6, 6, 6, 6, 6] rfl covS_nil rfl rfl ?_
    rintro W17 hm16 -
    rw [hear1 hK hh] at hm16
    have HM18 := Lib.hid hm16
    clear hm16
    simp only [Act.put, List.setIfInBounds_toArray, List.set_cons_succ, List.set_cons_zero]
    refine wpS_nil ?_
    refine then_normal ?_
    refine wp_seq ?_
    refine wp_region_N [(0, 1), (1, 3), (2, 1), (3, 3), (4, 1)] (by kernel_rfl) ?_
    refine wpS_this [0] rfl (by kernel_rfl) (by simp only [pickL, nthL, List.cons_append, List.nil_append]; rfl) ?_
    repeat (go_big_quiet_step (fail))
    refine wpQuiet_nil ?_
    refine wpS_build1 elemI (i := 1) (dd := 27) (y := (1 : Int)) rfl (by rfl) rfl rfl rfl (by decide) HM18.out covS_nil rfl ?_
    rintro b21 W22 hm23 -
    have HM24 := Lib.hid hm23
    clear hm23
    simp only [Act.put, List.setIfInBounds_toArray, List.set_cons_succ, List.set_cons_zero]
    refine wpS_this [2] rfl (by kernel_rfl) (by simp only [pickL, nthL, List.cons_append, List.nil_append]; rfl) ?_
    repeat (go_big_quiet_step (fail))
    refine wpQuiet_nil ?_
    refine wpS_doesU3 (i := 3) (d := some 29) (rem := [_, _, _, _, _, _]) rfl (by rfl) rfl Try.call9 (tick_d ba.d (A1 K 2) ba.pv ba.pq ba.po ba.pc (.slice (some ⟨b21, 0, none⟩) 1 1) draw (rowT elemI (.slice (some ⟨b21, 0, none⟩) 1 1) [1]) [1] (fun W H h => rowAt_src (rowT_reads W H h)) (by decide) lok_A1 (show (0 : Int) < 100000 by decide) hd0 hd1) rfl rfl rfl HM24.out [0, 0, 0, 0, 0, 0] rfl covS_nil (fun _ => rfl) rfl ?_
    rintro u27 W26 hm25 -
    rw [(tick1 hh draw)] at hm25
    obtain ⟨mb, mo, mc, mp, mcap, hm25u, hm25m⟩ := msgs_open1 hm25
    clear hm25
    subst hm25u
    obtain ⟨cb, co, cc, hm25k⟩ := row_addr hm25m 1 rfl (by simp)
    simp only [Value.slice.injEq, List.length_cons, List.length_nil, Nat.zero_add, Nat.reduceAdd] at hm25k
    obtain ⟨rfl, -, rfl⟩ := hm25k
    have HM28 := Lib.hid hm25m
    clear hm25m
    simp only [Act.put, List.setIfInBounds_toArray, List.set_cons_succ, List.set_cons_zero]
    refine wpS_this [4] rfl (by kernel_rfl) (by simp only [pickL, nthL, List.cons_append, List.nil_append]; rfl) ?_
    repeat (go_big_quiet_step (fail))
    refine wpQuiet_nil ?_
    refine wpS_nil ?_
    refine then_normal ?_
    refine wp_seq ?_
    refine wp_seq ?_
    refine wp_region_M (fun k => k ∈ ([] : List Nat)) [(0, 1), (1, 1), (2, 1), (3, 1), (4, 1), (5, 1), (6, 1), (7, 1), (8, 1), (9, 1), (10, 1), (11, 1), (12, 1), (13, 1), (14, 1), (15, 1), (16, 1), (17, 1), (18, 1), (19, 1), (20, 1), (21, 1), (22, 1), (23, 1), (24, 1), (25, 1), (26, 1), (27, 1), (28, 1), (29, 1), (30, 1), (31, 1), (32, 1), (33, 1), (34, 1), (35, 1), (36, 1), (37, 1), (38, 1)] (by kernel_rfl) (by kernel_rfl) HM28.out ?_
    intro W29 hm30
    have HM31 := Lib.hid hm30
    clear hm30
    have c61 : World.cell? _ ⟨mb, mo + 61, none⟩ = some (.slice (some ⟨cb, co, none⟩) 3 mcap) := row_cell0 HM31.out 0 rfl rfl 61 _ rfl
    refine wpS_this [0, 1, 2, 3, 4, 5, 6, 7, 8, 9, 10, 11, 12, 13, 14, 15, 16, 17, 18, 19, 20, 21, 22, 23] rfl (by kernel_rfl) (by simp only [pickL, nthL, List.cons_append, List.nil_append]; rfl) ?_
    repeat (go_big_quiet_step (fail))
    refine wpQuiet_nil ?_
    refine wpS_index (E := elemCl) (i := 24) (d := some 54) rfl (by rfl) rfl rfl rfl (rowAt_src (HM31.out.src 1 rfl rowT_reads)) ((rfl : _ = some (⟨0, 3, 1⟩ : Cl))) rfl ?_
    intro eb32 eo33 hc34
    simp only [Act.put, List.setIfInBounds_toArray, List.set_cons_succ, List.set_cons_zero]
    refine wpS_loadA (i := 25) (d := some 55) (cells := [.int .i64 0, .int .i64 3, .int .i64 1]) rfl (by rfl) rfl rfl hc34 Try.underlying23 rfl (by kernel_rfl) rfl ?_
    simp only [Act.put, List.setIfInBounds_toArray, List.set_cons_succ, List.set_cons_zero]
    refine wpS_this [26, 27, 28, 29, 30, 31, 32, 33] rfl (by kernel_rfl) (by simp only [pickL, nthL, List.cons_append, List.nil_append]; rfl) ?_
    repeat (go_big_quiet_step (fail))
    refine wpQuiet_nil ?_
    refine wpS_index (E := elemCl) (i := 34) (d := some 64) rfl (by rfl) rfl rfl rfl (rowAt_src (HM31.out.src 1 rfl rowT_reads)) ((rfl : _ = some (⟨1, K, 2⟩ : Cl))) rfl ?_
    intro eb35 eo36 hc37
    simp only [Act.put, List.setIfInBounds_toArray, List.set_cons_succ, List.set_cons_zero]
    refine wpS_loadA (i := 35) (d := some 65) (cells := [.int .i64 1, .int .i64 K, .int .i64 2]) rfl (by rfl) rfl rfl hc37 Try.underlying23 rfl (by kernel_rfl) rfl ?_
    simp only [Act.put, List.setIfInBounds_toArray, List.set_cons_succ, List.set_cons_zero]
    have Cb9 := Mem.cell HM31.out 8 rfl
    refine wpS_this [36, 37, 38] rfl (by kernel_rfl) (by simp only [pickL, nthL, List.cons_append, List.nil_append]; rfl) ?_
    repeat (go_big_quiet_step (fail))
    refine wpQuiet_nil ?_
    clear Cb9
    refine wpS_nil ?_
    refine then_normal ?_
    refine wp_cond_false rfl ?_
    refine wp_skip ?_
    refine then_normal ?_
    refine wp_seq ?_
    have HX : Hid ((handleD (newD 1 K) ((⟨1, 0, 1, 1, 0, 0, msgMid, some ⟨cb, co, none⟩, 3, mcap⟩ : InM).mm [⟨0, 3, 1⟩, ⟨1, K, 2⟩, ⟨1, K, 2⟩])).2 = [⟨2, 1, 0, 1, 0, 0, [⟨1, K + 1, 1⟩, ⟨0, 3, 1⟩, ⟨1, K + 1, 1⟩]⟩]) := Lib.hid (congrArg Prod.snd (hand1 hK hh))
    have HI : Hid ((handleD (newD 1 K) ((⟨1, 0, 1, 1, 0, 0, msgMid, some ⟨cb, co, none⟩, 3, mcap⟩ : InM).mm [⟨0, 3, 1⟩, ⟨1, K, 2⟩, ⟨1, K, 2⟩])).1.inc = K + 1) := Lib.hid (congrArg (fun x => x.1.inc) (hand1 hK hh))
    have HP : Hid (ofV (handleD (newD 1 K) ((⟨1, 0, 1, 1, 0, 0, msgMid, some ⟨cb, co, none⟩, 3, mcap⟩ : InM).mm [⟨0, 3, 1⟩, ⟨1, K, 2⟩, ⟨1, K, 2⟩])).1.V 0 = ⟨0, 3, 1⟩) := Lib.hid (congrArg (fun x => ofV x.1.V 0) (hand1 hK hh))
    refine wp_region_N [(0, 1), (1, 1), (2, 1), (3, 1), (4, 3), (5, 1)] (by kernel_rfl) ?_
    refine wpS_this [0, 1] rfl (by kernel_rfl) (by simp only [pickL, nthL, List.cons_append, List.nil_append]; rfl) ?_
    repeat (go_big_quiet_step (fail))
    refine wpQuiet_nil ?_
    refine wpS_index (E := elemM) (i := 2) (d := some 71) rfl (by rfl) rfl rfl rfl (rowAt_src (HM31.out.src 0 rfl rowT_reads)) (rfl) rfl ?_
    intro eb38 eo39 hc40
    simp only [Act.put, List.setIfInBounds_toArray, List.set_cons_succ, List.set_cons_zero]
    refine wpS_loadA (i := 3) (d := some 72) (cells := InM.enc (⟨1, 0, 1, 1, 0, 0, msgMid, some ⟨cb, co, none⟩, 3, mcap⟩ : InM)) rfl (by rfl) rfl rfl hc40 Try.underlying39 rfl (by kernel_rfl) rfl ?_
    simp only [Act.put, List.setIfInBounds_toArray, List.set_cons_succ, List.set_cons_zero]
    refine wpS_doesU2 (i := 4) (d := some 73) (rem := [_, _, _, _, _, _, _, _]) rfl (by rfl) rfl Try.call10 (handle_d bb.d (newD 1 K) bb.pv bb.pq bb.po bb.pc (rowT elemCl (.slice (some ⟨cb, co, none⟩) 3 mcap) [⟨0, 3, 1⟩, ⟨1, K, 2⟩, ⟨1, K, 2⟩]) (⟨1, 0, 1, 1, 0, 0, msgMid, some ⟨cb, co, none⟩, 3, mcap⟩ : InM) [⟨0, 3, 1⟩, ⟨1, K, 2⟩, ⟨1, K, 2⟩] (fun W H h => rowAt_src (rowT_reads W H h)) (by simp) msgMid_len (lok_new (by decide) (by omega))) rfl rfl HM31.out [1, 8, 8, 8, 8, 8] rfl covS_nil (fun _ => rfl) rfl ?_
    rintro u43 W42 hm41 -
    rw [HX.out] at hm41
    obtain ⟨mb2, mo2, mc2, mp2, mcap2, hm41u, hm41m⟩ := msgs_open1 hm41
    clear hm41
    subst hm41u
    obtain ⟨cb2, co2, cc2, hm41k⟩ := row_addr hm41m 1 rfl (by simp)
    simp only [Value.slice.injEq, List.length_cons, List.length_nil, Nat.zero_add, Nat.reduceAdd] at hm41k
    obtain ⟨rfl, -, rfl⟩ := hm41k
    have HM44 := Lib.hid hm41m
    clear hm41m
    simp only [Act.put, List.setIfInBounds_toArray, List.set_cons_succ, List.set_cons_zero]
    refine wpS_this [5] rfl (by kernel_rfl) (by simp only [pickL, nthL, List.cons_append, List.nil_append]; rfl) ?_
    repeat (go_big_quiet_step (fail))
    refine wpQuiet_nil ?_
    refine wpS_nil ?_
    refine then_normal ?_
    refine wp_seq ?_
    refine wp_seq ?_
    refine wp_region_N [(0, 1), (1, 1), (2, 1), (3, 1), (4, 1), (5, 3), (6, 1), (7, 1), (8, 1), (9, 1)] (by kernel_rfl) ?_
    refine wpS_this [0, 1, 2, 3, 4] rfl (by kernel_rfl) (by simp only [pickL, nthL, List.cons_append, List.nil_append]; rfl) ?_
    repeat (go_big_quiet_step (fail))
    refine wpQuiet_nil ?_
    refine wpS_does1 (i := 5) (d := some 79) (rem := [_, _, _, _, _, _, _, _, _, _, _, _, _, _, _]) (out := [_, _, _, _, _, _, _, _, _, _, _, _, _, _, _, _]) rfl (by rfl) rfl Try.call15 (inc_d bb.d (handleD (newD 1 K) ((⟨1, 0, 1, 1, 0, 0, msgMid, some ⟨cb, co, none⟩, 3, mcap⟩ : InM).mm [⟨0, 3, 1⟩, ⟨1, K, 2⟩, ⟨1, K, 2⟩])).1 bb.pv bb.pq bb.po bb.pc) rfl HM44.out [3] rfl covS_nil rfl rfl ?_
    rintro W46 hm45 -
    rw [HI.out]
    have HM47 := Lib.hid hm45
    clear hm45
    simp only [Act.put, List.setIfInBounds_toArray, List.set_cons_succ, List.set_cons_zero]
    refine wpS_this [6, 7, 8, 9] rfl (by kernel_rfl) (by simp only [pickL, nthL, List.cons_append, List.nil_append]; rfl) ?_
    repeat (go_big_quiet_step (fail))
    refine wpQuiet_nil ?_
    refine wpS_nil ?_
    refine then_normal ?_
    refine wp_cond_false rfl ?_
    refine wp_skip ?_
    refine then_normal ?_
    refine wp_seq ?_
    refine wp_region_N [(0, 1), (1, 1), (2, 1), (3, 1), (4, 3)] (by kernel_rfl) ?_
    refine wpS_this [0, 1] rfl (by kernel_rfl) (by simp only [pickL, nthL, List.cons_append, List.nil_append]; rfl) ?_
    repeat (go_big_quiet_step (fail))
    refine wpQuiet_nil ?_
    refine wpS_index (E := elemM) (i := 2) (d := some 86) rfl (by rfl) rfl rfl rfl (rowAt_src (HM47.out.src 1 rfl rowT_reads)) (rfl) rfl ?_
    intro eb48 eo49 hc50
    simp only [Act.put, List.setIfInBounds_toArray, List.set_cons_succ, List.set_cons_zero]
    refine wpS_loadA (i := 3) (d := some 87) (cells := InM.enc (⟨2, 1, 0, 1, 0, 0, msgMid, some ⟨cb2, co2, none⟩, 3, mcap2⟩ : InM)) rfl (by rfl) rfl rfl hc50 Try.underlying39 rfl (by kernel_rfl) rfl ?_
    simp only [Act.put, List.setIfInBounds_toArray, List.set_cons_succ, List.set_cons_zero]
    refine wpS_doesU2 (i := 4) (d := some 88) (rem := [_, _, _, _, _, _, _, _, _, _]) rfl (by rfl) rfl Try.call10 (handle_d ba.d (tickD (A1 K 2) [1] draw).1 ba.pv ba.pq ba.po ba.pc (rowT elemCl (.slice (some ⟨cb2, co2, none⟩) 3 mcap2) [⟨1, K + 1, 1⟩, ⟨0, 3, 1⟩, ⟨1, K + 1, 1⟩]) (⟨2, 1, 0, 1, 0, 0, msgMid, some ⟨cb2, co2, none⟩, 3, mcap2⟩ : InM) [⟨1, K + 1, 1⟩, ⟨0, 3, 1⟩, ⟨1, K + 1, 1⟩] (fun W H h => rowAt_src (rowT_reads W H h)) (by simp) msgMid_len (lok_T1 hh draw)) rfl rfl HM47.out [2, 9, 9, 9, 9, 9] rfl covS_nil (fun _ => rfl) rfl ?_
    rintro u53 W52 hm51 -
    have HM54 := Lib.hid hm51
    clear hm51
    simp only [Act.put, List.setIfInBounds_toArray, List.set_cons_succ, List.set_cons_zero]
    refine wpS_nil ?_
    refine then_normal ?_
    refine wp_seq ?_
    have HO : Hid (ofV (handleD (tickD (A1 K 2) [1] draw).1 ((⟨2, 1, 0, 1, 0, 0, msgMid, some ⟨cb2, co2, none⟩, 3, mcap2⟩ : InM).mm [⟨1, K + 1, 1⟩, ⟨0, 3, 1⟩, ⟨1, K + 1, 1⟩])).1.V 1 = ⟨1, K + 1, 1⟩) := Lib.hid (answer hK hh (tick1V hh draw).2.1 (tick1V hh draw).2.2 (congrFun (tick1V hh draw).1 1))
    refine wp_region_N [(0, 1), (1, 3), (2, 1), (3, 1), (4, 1), (5, 1), (6, 1), (7, 1), (8, 3), (9, 1), (10, 1), (11, 1), (12, 1), (13, 3), (14, 1), (15, 1)] (by kernel_rfl) ?_
    refine wpS_this [0] rfl (by kernel_rfl) (by simp only [pickL, nthL, List.cons_append, List.nil_append]; rfl) ?_
    repeat (go_big_quiet_step (fail))
    refine wpQuiet_nil ?_
    refine wpS_does2 (i := 1) (d := some 90) (rem := [_, _, _, _, _, _, _, _, _, _, _, _, _, _, _]) (out := [_, _, _, _, _, _, _, _, _, _, _, _, _, _, _, _, _]) rfl (by rfl) rfl Try.call13 (of_d ba.d (handleD (tickD (A1 K 2) [1] draw).1 ((⟨2, 1, 0, 1, 0, 0, msgMid, some ⟨cb2, co2, none⟩, 3, mcap2⟩ : InM).mm [⟨1, K + 1, 1⟩, ⟨0, 3, 1⟩, ⟨1, K + 1, 1⟩])).1 ba.pv ba.pq ba.po ba.pc 1) rfl rfl HM54.out [2, 2] rfl covS_nil rfl rfl ?_
    rintro W56 hm55 -
    rw [HO.out]
    have HM57 := Lib.hid hm55
    clear hm55
    simp only [Act.put, List.setIfInBounds_toArray, List.set_cons_succ, List.set_cons_zero]
    refine wpS_this [2, 3, 4, 5, 6, 7] rfl (by kernel_rfl) (by simp only [pickL, nthL, List.cons_append, List.nil_append]; rfl) ?_
    repeat (go_big_quiet_step (fail))
    refine wpQuiet_nil ?_
    refine wpS_does2 (i := 8) (d := some 97) (rem := [_, _, _, _, _, _, _, _, _, _, _, _, _, _, _]) (out := [_, _, _, _, _, _, _, _, _, _, _, _, _, _, _, _, _]) rfl (by rfl) rfl Try.call13 (of_d bb.d (handleD (newD 1 K) ((⟨1, 0, 1, 1, 0, 0, msgMid, some ⟨cb, co, none⟩, 3, mcap⟩ : InM).mm [⟨0, 3, 1⟩, ⟨1, K, 2⟩, ⟨1, K, 2⟩])).1 bb.pv bb.pq bb.po bb.pc 0) rfl rfl HM57.out [7, 9] rfl covS_nil rfl rfl ?_
    rintro W59 hm58 -
    rw [HP.out]
    simp only [cl3]
    have HM60 := Lib.hid hm58
    clear hm58
    simp only [Act.put, List.setIfInBounds_toArray, List.set_cons_succ, List.set_cons_zero]
    refine wpS_read (i := 9) (d := some 98) (v := .int .i64 3) rfl (by rfl) (by rfl) rfl ?_
    simp only [Act.put, List.setIfInBounds_toArray, List.set_cons_succ, List.set_cons_zero]
    refine wpS_this [10, 11, 12] rfl (by kernel_rfl) (by simp only [pickL, nthL, List.cons_append, List.nil_append]; rfl) ?_
    repeat (go_big_quiet_step (fail))
    refine wpQuiet_nil ?_
    refine wpS_does0 (i := 13) (d := some 102) (rem := [_, _, _, _, _, _, _, _, _, _, _, _, _, _, _, _, _]) (out := [_, _, _, _, _, _, _, _, _, _, _, _, _, _, _, _, _]) rfl (by rfl) rfl Try.call18 (awake_d)  HM60.out [] rfl covS_nil rfl rfl ?_
    rintro W62 hm61 -
    have HM63 := Lib.hid hm61
    clear hm61
    simp only [Act.put, List.setIfInBounds_toArray, List.set_cons_succ, List.set_cons_zero]
    refine wpS_this [14, 15] rfl (by kernel_rfl) (by simp only [pickL, nthL, List.cons_append, List.nil_append]; rfl) ?_
    repeat (go_big_quiet_step (fail))
    refine wpQuiet_nil ?_
    refine wpS_nil ?_
    refine then_normal ?_
    refine wp_ret ?_
    refine bodyPost_ret (results_tmp rfl _ _ _) rfl ?_
    exact does_ret (Mem.only (M := []) HM63.out [] rfl) rfl rfl
  · have hh : (3 : Int) = 2 ∨ (3 : Int) = 3 := .inr rfl
    refine wp_region_N [(0, 1)] (by kernel_rfl) ?_
    refine wpS_this [0] rfl (by kernel_rfl) (by simp only [pickL, nthL, List.cons_append, List.nil_append]; rfl) ?_
    repeat (go_big_quiet_step (fail))
    refine wpQuiet_nil ?_
    refine wpS_nil ?_
    refine then_normal ?_
    refine wp_cond_true rfl ?_
    refine wp_region_N [(0, 1), (1, 3)] (by kernel_rfl) ?_
    refine wpS_this [0] rfl (by kernel_rfl) (by simp only [pickL, nthL, List.cons_append, List.nil_append]; rfl) ?_
    repeat (go_big_quiet_step (fail))
    refine wpQuiet_nil ?_
    refine wpS_store1 (i := 1) (v := .int _ _) (L2 := [_, _, _, _, _, _, _, _, _, _]) (cs' := [_, _, _]) rfl (by rfl) rfl rfl rfl rfl (by kernel_rfl) rfl HM15.out 0 rfl rfl rfl rfl covS_nil rfl ?_
    rintro W65 hm64 -
    have HM66 := Lib.hid hm64
    clear hm64
    refine wpS_nil ?_
    refine then_normal ?_
    refine wp_seq ?_
    refine wp_region_N [(0, 1), (1, 1), (2, 3)] (by kernel_rfl) ?_
    have Cb9 := Mem.cell HM66.out 0 rfl
    refine wpS_this [0, 1] rfl (by kernel_rfl) (by simp only [pickL, nthL, List.cons_append, List.nil_append]; rfl) ?_
    repeat (go_big_quiet_step (fail))
    refine wpQuiet_nil ?_
    clear Cb9
    refine wpS_does2 (i := 2) (d := some 25) (rem := [_, _, _, _, _, _]) (out := [_, _, _, _, _, _, _, _, _, _, _]) rfl (by rfl) rfl Try.call11 (hearCall_d ba.d (newD 0 3) ba.pv ba.pq ba.po ba.pc 1 K 3 (lok_new (by decide) (by decide))) rfl rfl HM66.out [6, 6, 6, 6, 6] rfl covS_nil rfl rfl ?_
    rintro W68 hm67 -
    rw [hear1 hK hh] at hm67
    have HM69 := Lib.hid hm67
    clear hm67
    simp only [Act.put, List.setIfInBounds_toArray, List.set_cons_succ, List.set_cons_zero]
    refine wpS_nil ?_
    refine then_normal ?_
    refine wp_seq ?_
    refine wp_region_N [(0, 1), (1, 3), (2, 1), (3, 3), (4, 1)] (by kernel_rfl) ?_
    refine wpS_this [0] rfl (by kernel_rfl) (by simp only [pickL, nthL, List.cons_append, List.nil_append]; rfl) ?_
    repeat (go_big_quiet_step (fail))
    refine wpQuiet_nil ?_
    refine wpS_build1 elemI (i := 1) (dd := 27) (y := (1 : Int)) rfl (by rfl) rfl rfl rfl (by decide) HM69.out covS_nil rfl ?_
    rintro b72 W73 hm74 -
    have HM75 := Lib.hid hm74
    clear hm74
    simp only [Act.put, List.setIfInBounds_toArray, List.set_cons_succ, List.set_cons_zero]
    refine wpS_this [2] rfl (by kernel_rfl) (by simp only [pickL, nthL, List.cons_append, List.nil_append]; rfl) ?_
    repeat (go_big_quiet_step (fail))
    refine wpQuiet_nil ?_
    refine wpS_doesU3 (i := 3) (d := some 29) (rem := [_, _, _, _, _, _]) rfl (by rfl) rfl Try.call9 (tick_d ba.d (A1 K 3) ba.pv ba.pq ba.po ba.pc (.slice (some ⟨b72, 0, none⟩) 1 1) draw (rowT elemI (.slice (some ⟨b72, 0, none⟩) 1 1) [1]) [1] (fun W H h => rowAt_src (rowT_reads W H h)) (by decide) lok_A1 (show (0 : Int) < 100000 by decide) hd0 hd1) rfl rfl rfl HM75.out [0, 0, 0, 0, 0, 0] rfl covS_nil (fun _ => rfl) rfl ?_
    rintro u78 W77 hm76 -
    rw [(tick1 hh draw)] at hm76
    obtain ⟨mb, mo, mc, mp, mcap, hm76u, hm76m⟩ := msgs_open1 hm76
    clear hm76
    subst hm76u
    obtain ⟨cb, co, cc, hm76k⟩ := row_addr hm76m 1 rfl (by simp)
    simp only [Value.slice.injEq, List.length_cons, List.length_nil, Nat.zero_add, Nat.reduceAdd] at hm76k
    obtain ⟨rfl, -, rfl⟩ := hm76k
    have HM79 := Lib.hid hm76m
    clear hm76m
    simp only [Act.put, List.setIfInBounds_toArray, List.set_cons_succ, List.set_cons_zero]
    refine wpS_this [4] rfl (by kernel_rfl) (by simp only [pickL, nthL, List.cons_append, List.nil_append]; rfl) ?_
    repeat (go_big_quiet_step (fail))
    refine wpQuiet_nil ?_
    refine wpS_nil ?_
    refine then_normal ?_
    refine wp_seq ?_
    refine wp_seq ?_
    refine wp_region_M (fun k => k ∈ ([] : List Nat)) [(0, 1), (1, 1), (2, 1), (3, 1), (4, 1), (5, 1), (6, 1), (7, 1), (8, 1), (9, 1), (10, 1), (11, 1), (12, 1), (13, 1), (14, 1), (15, 1), (16, 1), (17, 1), (18, 1), (19, 1), (20, 1), (21, 1), (22, 1), (23, 1), (24, 1), (25, 1), (26, 1), (27, 1), (28, 1), (29, 1), (30, 1), (31, 1), (32, 1), (33, 1), (34, 1), (35, 1), (36, 1), (37, 1), (38, 1)] (by kernel_rfl) (by kernel_rfl) HM79.out ?_
    intro W80 hm81
    have HM82 := Lib.hid hm81
    clear hm81
    have c61 : World.cell? _ ⟨mb, mo + 61, none⟩ = some (.slice (some ⟨cb, co, none⟩) 3 mcap) := row_cell0 HM82.out 0 rfl rfl 61 _ rfl
    refine wpS_this [0, 1, 2, 3, 4, 5, 6, 7, 8, 9, 10, 11, 12, 13, 14, 15, 16, 17, 18, 19, 20, 21, 22, 23] rfl (by kernel_rfl) (by simp only [pickL, nthL, List.cons_append, List.nil_append]; rfl) ?_
    repeat (go_big_quiet_step (fail))
    refine wpQuiet_nil ?_
    refine wpS_index (E := elemCl) (i := 24) (d := some 54) rfl (by rfl) rfl rfl rfl (rowAt_src (HM82.out.src 1 rfl rowT_reads)) ((rfl : _ = some (⟨0, 3, 1⟩ : Cl))) rfl ?_
    intro eb83 eo84 hc85
    simp only [Act.put, List.setIfInBounds_toArray, List.set_cons_succ, List.set_cons_zero]
    refine wpS_loadA (i := 25) (d := some 55) (cells := [.int .i64 0, .int .i64 3, .int .i64 1]) rfl (by rfl) rfl rfl hc85 Try.underlying23 rfl (by kernel_rfl) rfl ?_
    simp only [Act.put, List.setIfInBounds_toArray, List.set_cons_succ, List.set_cons_zero]
    refine wpS_this [26, 27, 28, 29, 30, 31, 32, 33] rfl (by kernel_rfl) (by simp only [pickL, nthL, List.cons_append, List.nil_append]; rfl) ?_
    repeat (go_big_quiet_step (fail))
    refine wpQuiet_nil ?_
    refine wpS_index (E := elemCl) (i := 34) (d := some 64) rfl (by rfl) rfl rfl rfl (rowAt_src (HM82.out.src 1 rfl rowT_reads)) ((rfl : _ = some (⟨1, K, 3⟩ : Cl))) rfl ?_
    intro eb86 eo87 hc88
    simp only [Act.put, List.setIfInBounds_toArray, List.set_cons_succ, List.set_cons_zero]
    refine wpS_loadA (i := 35) (d := some 65) (cells := [.int .i64 1, .int .i64 K, .int .i64 3]) rfl (by rfl) rfl rfl hc88 Try.underlying23 rfl (by kernel_rfl) rfl ?_
    simp only [Act.put, List.setIfInBounds_toArray, List.set_cons_succ, List.set_cons_zero]
    have Cb9 := Mem.cell HM82.out 8 rfl
    refine wpS_this [36, 37, 38] rfl (by kernel_rfl) (by simp only [pickL, nthL, List.cons_append, List.nil_append]; rfl) ?_
    repeat (go_big_quiet_step (fail))
    refine wpQuiet_nil ?_
    clear Cb9
    refine wpS_nil ?_
    refine then_normal ?_
    refine wp_cond_false rfl ?_
    refine wp_skip ?_
    refine then_normal ?_
    refine wp_seq ?_
    have HX : Hid ((handleD (newD 1 K) ((⟨1, 0, 1, 1, 0, 0, msgMid, some ⟨cb, co, none⟩, 3, mcap⟩ : InM).mm [⟨0, 3, 1⟩, ⟨1, K, 3⟩, ⟨1, K, 3⟩])).2 = [⟨2, 1, 0, 1, 0, 0, [⟨1, K + 1, 1⟩, ⟨0, 3, 1⟩, ⟨1, K + 1, 1⟩]⟩]) := Lib.hid (congrArg Prod.snd (hand1 hK hh))
    have HI : Hid ((handleD (newD 1 K) ((⟨1, 0, 1, 1, 0, 0, msgMid, some ⟨cb, co, none⟩, 3, mcap⟩ : InM).mm [⟨0, 3, 1⟩, ⟨1, K, 3⟩, ⟨1, K, 3⟩])).1.inc = K + 1) := Lib.hid (congrArg (fun x => x.1.inc) (hand1 hK hh))
    have HP : Hid (ofV (handleD (newD 1 K) ((⟨1, 0, 1, 1, 0, 0, msgMid, some ⟨cb, co, none⟩, 3, mcap⟩ : InM).mm [⟨0, 3, 1⟩, ⟨1, K, 3⟩, ⟨1, K, 3⟩])).1.V 0 = ⟨0, 3, 1⟩) := Lib.hid (congrArg (fun x => ofV x.1.V 0) (hand1 hK hh))
    refine wp_region_N [(0, 1), (1, 1), (2, 1), (3, 1), (4, 3), (5, 1)] (by kernel_rfl) ?_
    refine wpS_this [0, 1] rfl (by kernel_rfl) (by simp only [pickL, nthL, List.cons_append, List.nil_append]; rfl) ?_
    repeat (go_big_quiet_step (fail))
    refine wpQuiet_nil ?_
    refine wpS_index (E := elemM) (i := 2) (d := some 71) rfl (by rfl) rfl rfl rfl (rowAt_src (HM82.out.src 0 rfl rowT_reads)) (rfl) rfl ?_
    intro eb89 eo90 hc91
    simp only [Act.put, List.setIfInBounds_toArray, List.set_cons_succ, List.set_cons_zero]
    refine wpS_loadA (i := 3) (d := some 72) (cells := InM.enc (⟨1, 0, 1, 1, 0, 0, msgMid, some ⟨cb, co, none⟩, 3, mcap⟩ : InM)) rfl (by rfl) rfl rfl hc91 Try.underlying39 rfl (by kernel_rfl) rfl ?_
    simp only [Act.put, List.setIfInBounds_toArray, List.set_cons_succ, List.set_cons_zero]
    refine wpS_doesU2 (i := 4) (d := some 73) (rem := [_, _, _, _, _, _, _, _]) rfl (by rfl) rfl Try.call10 (handle_d bb.d (newD 1 K) bb.pv bb.pq bb.po bb.pc (rowT elemCl (.slice (some ⟨cb, co, none⟩) 3 mcap) [⟨0, 3, 1⟩, ⟨1, K, 3⟩, ⟨1, K, 3⟩]) (⟨1, 0, 1, 1, 0, 0, msgMid, some ⟨cb, co, none⟩, 3, mcap⟩ : InM) [⟨0, 3, 1⟩, ⟨1, K, 3⟩, ⟨1, K, 3⟩] (fun W H h => rowAt_src (rowT_reads W H h)) (by simp) msgMid_len (lok_new (by decide) (by omega))) rfl rfl HM82.out [1, 8, 8, 8, 8, 8] rfl covS_nil (fun _ => rfl) rfl ?_
    rintro u94 W93 hm92 -
    rw [HX.out] at hm92
    obtain ⟨mb2, mo2, mc2, mp2, mcap2, hm92u, hm92m⟩ := msgs_open1 hm92
    clear hm92
    subst hm92u
    obtain ⟨cb2, co2, cc2, hm92k⟩ := row_addr hm92m 1 rfl (by simp)
    simp only [Value.slice.injEq, List.length_cons, List.length_nil, Nat.zero_add, Nat.reduceAdd] at hm92k
    obtain ⟨rfl, -, rfl⟩ := hm92k
    have HM95 := Lib.hid hm92m
    clear hm92m
    simp only [Act.put, List.setIfInBounds_toArray, List.set_cons_succ, List.set_cons_zero]
    refine wpS_this [5] rfl (by kernel_rfl) (by simp only [pickL, nthL, List.cons_append, List.nil_append]; rfl) ?_
    repeat (go_big_quiet_step (fail))
    refine wpQuiet_nil ?_
    refine wpS_nil ?_
    refine then_normal ?_
    refine wp_seq ?_
    refine wp_seq ?_
    refine wp_region_N [(0, 1), (1, 1), (2, 1), (3, 1), (4, 1), (5, 3), (6, 1), (7, 1), (8, 1), (9, 1)] (by kernel_rfl) ?_
    refine wpS_this [0, 1, 2, 3, 4] rfl (by kernel_rfl) (by simp only [pickL, nthL, List.cons_append, List.nil_append]; rfl) ?_
    repeat (go_big_quiet_step (fail))
    refine wpQuiet_nil ?_
    refine wpS_does1 (i := 5) (d := some 79) (rem := [_, _, _, _, _, _, _, _, _, _, _, _, _, _, _]) (out := [_, _, _, _, _, _, _, _, _, _, _, _, _, _, _, _]) rfl (by rfl) rfl Try.call15 (inc_d bb.d (handleD (newD 1 K) ((⟨1, 0, 1, 1, 0, 0, msgMid, some ⟨cb, co, none⟩, 3, mcap⟩ : InM).mm [⟨0, 3, 1⟩, ⟨1, K, 3⟩, ⟨1, K, 3⟩])).1 bb.pv bb.pq bb.po bb.pc) rfl HM95.out [3] rfl covS_nil rfl rfl ?_
    rintro W97 hm96 -
    rw [HI.out]
    have HM98 := Lib.hid hm96
    clear hm96
    simp only [Act.put, List.setIfInBounds_toArray, List.set_cons_succ, List.set_cons_zero]
    refine wpS_this [6, 7, 8, 9] rfl (by kernel_rfl) (by simp only [pickL, nthL, List.cons_append, List.nil_append]; rfl) ?_
    repeat (go_big_quiet_step (fail))
    refine wpQuiet_nil ?_
    refine wpS_nil ?_
    refine then_normal ?_
    refine wp_cond_false rfl ?_
    refine wp_skip ?_
    refine then_normal ?_
    refine wp_seq ?_
    refine wp_region_N [(0, 1), (1, 1), (2, 1), (3, 1), (4, 3)] (by kernel_rfl) ?_
    refine wpS_this [0, 1] rfl (by kernel_rfl) (by simp only [pickL, nthL, List.cons_append, List.nil_append]; rfl) ?_
    repeat (go_big_quiet_step (fail))
    refine wpQuiet_nil ?_
    refine wpS_index (E := elemM) (i := 2) (d := some 86) rfl (by rfl) rfl rfl rfl (rowAt_src (HM98.out.src 1 rfl rowT_reads)) (rfl) rfl ?_
    intro eb99 eo100 hc101
    simp only [Act.put, List.setIfInBounds_toArray, List.set_cons_succ, List.set_cons_zero]
    refine wpS_loadA (i := 3) (d := some 87) (cells := InM.enc (⟨2, 1, 0, 1, 0, 0, msgMid, some ⟨cb2, co2, none⟩, 3, mcap2⟩ : InM)) rfl (by rfl) rfl rfl hc101 Try.underlying39 rfl (by kernel_rfl) rfl ?_
    simp only [Act.put, List.setIfInBounds_toArray, List.set_cons_succ, List.set_cons_zero]
    refine wpS_doesU2 (i := 4) (d := some 88) (rem := [_, _, _, _, _, _, _, _, _, _]) rfl (by rfl) rfl Try.call10 (handle_d ba.d (tickD (A1 K 3) [1] draw).1 ba.pv ba.pq ba.po ba.pc (rowT elemCl (.slice (some ⟨cb2, co2, none⟩) 3 mcap2) [⟨1, K + 1, 1⟩, ⟨0, 3, 1⟩, ⟨1, K + 1, 1⟩]) (⟨2, 1, 0, 1, 0, 0, msgMid, some ⟨cb2, co2, none⟩, 3, mcap2⟩ : InM) [⟨1, K + 1, 1⟩, ⟨0, 3, 1⟩, ⟨1, K + 1, 1⟩] (fun W H h => rowAt_src (rowT_reads W H h)) (by simp) msgMid_len (lok_T1 hh draw)) rfl rfl HM98.out [2, 9, 9, 9, 9, 9] rfl covS_nil (fun _ => rfl) rfl ?_
    rintro u104 W103 hm102 -
    have HM105 := Lib.hid hm102
    clear hm102
    simp only [Act.put, List.setIfInBounds_toArray, List.set_cons_succ, List.set_cons_zero]
    refine wpS_nil ?_
    refine then_normal ?_
    refine wp_seq ?_
    have HO : Hid (ofV (handleD (tickD (A1 K 3) [1] draw).1 ((⟨2, 1, 0, 1, 0, 0, msgMid, some ⟨cb2, co2, none⟩, 3, mcap2⟩ : InM).mm [⟨1, K + 1, 1⟩, ⟨0, 3, 1⟩, ⟨1, K + 1, 1⟩])).1.V 1 = ⟨1, K + 1, 1⟩) := Lib.hid (answer hK hh (tick1V hh draw).2.1 (tick1V hh draw).2.2 (congrFun (tick1V hh draw).1 1))
    refine wp_region_N [(0, 1), (1, 3), (2, 1), (3, 1), (4, 1), (5, 1), (6, 1), (7, 1), (8, 3), (9, 1), (10, 1), (11, 1), (12, 1), (13, 3), (14, 1), (15, 1)] (by kernel_rfl) ?_
    refine wpS_this [0] rfl (by kernel_rfl) (by simp only [pickL, nthL, List.cons_append, List.nil_append]; rfl) ?_
    repeat (go_big_quiet_step (fail))
    refine wpQuiet_nil ?_
    refine wpS_does2 (i := 1) (d := some 90) (rem := [_, _, _, _, _, _, _, _, _, _, _, _, _, _, _]) (out := [_, _, _, _, _, _, _, _, _, _, _, _, _, _, _, _, _]) rfl (by rfl) rfl Try.call13 (of_d ba.d (handleD (tickD (A1 K 3) [1] draw).1 ((⟨2, 1, 0, 1, 0, 0, msgMid, some ⟨cb2, co2, none⟩, 3, mcap2⟩ : InM).mm [⟨1, K + 1, 1⟩, ⟨0, 3, 1⟩, ⟨1, K + 1, 1⟩])).1 ba.pv ba.pq ba.po ba.pc 1) rfl rfl HM105.out [2, 2] rfl covS_nil rfl rfl ?_
    rintro W107 hm106 -
    rw [HO.out]
    have HM108 := Lib.hid hm106
    clear hm106
    simp only [Act.put, List.setIfInBounds_toArray, List.set_cons_succ, List.set_cons_zero]
    refine wpS_this [2, 3, 4, 5, 6, 7] rfl (by kernel_rfl) (by simp only [pickL, nthL, List.cons_append, List.nil_append]; rfl) ?_
    repeat (go_big_quiet_step (fail))
    refine wpQuiet_nil ?_
    refine wpS_does2 (i := 8) (d := some 97) (rem := [_, _, _, _, _, _, _, _, _, _, _, _, _, _, _]) (out := [_, _, _, _, _, _, _, _, _, _, _, _, _, _, _, _, _]) rfl (by rfl) rfl Try.call13 (of_d bb.d (handleD (newD 1 K) ((⟨1, 0, 1, 1, 0, 0, msgMid, some ⟨cb, co, none⟩, 3, mcap⟩ : InM).mm [⟨0, 3, 1⟩, ⟨1, K, 3⟩, ⟨1, K, 3⟩])).1 bb.pv bb.pq bb.po bb.pc 0) rfl rfl HM108.out [7, 9] rfl covS_nil rfl rfl ?_
    rintro W110 hm109 -
    rw [HP.out]
    simp only [cl3]
    have HM111 := Lib.hid hm109
    clear hm109
    simp only [Act.put, List.setIfInBounds_toArray, List.set_cons_succ, List.set_cons_zero]
    refine wpS_read (i := 9) (d := some 98) (v := .int .i64 3) rfl (by rfl) (by rfl) rfl ?_
    simp only [Act.put, List.setIfInBounds_toArray, List.set_cons_succ, List.set_cons_zero]
    refine wpS_this [10, 11, 12] rfl (by kernel_rfl) (by simp only [pickL, nthL, List.cons_append, List.nil_append]; rfl) ?_
    repeat (go_big_quiet_step (fail))
    refine wpQuiet_nil ?_
    refine wpS_does0 (i := 13) (d := some 102) (rem := [_, _, _, _, _, _, _, _, _, _, _, _, _, _, _, _, _]) (out := [_, _, _, _, _, _, _, _, _, _, _, _, _, _, _, _, _]) rfl (by rfl) rfl Try.call18 (awake_d)  HM111.out [] rfl covS_nil rfl rfl ?_
    rintro W113 hm112 -
    have HM114 := Lib.hid hm112
    clear hm112
    simp only [Act.put, List.setIfInBounds_toArray, List.set_cons_succ, List.set_cons_zero]
    refine wpS_this [14, 15] rfl (by kernel_rfl) (by simp only [pickL, nthL, List.cons_append, List.nil_append]; rfl) ?_
    repeat (go_big_quiet_step (fail))
    refine wpQuiet_nil ?_
    refine wpS_nil ?_
    refine then_normal ?_
    refine wp_ret ?_
    refine bodyPost_ret (results_tmp rfl _ _ _) rfl ?_
    exact does_ret (Mem.only (M := []) HM114.out [] rfl) rfl rfl

theorem u64_rng {n : Int} (hw : (Lit.int IntKind.u64 n).wf = true) : 0 ≤ n ∧ n < 18446744073709551616 := by
  have h : IntKind.u64.min ≤ n ∧ n ≤ IntKind.u64.max := by simpa [Lit.wf] using hw
  have e1 : IntKind.u64.min = 0 := by decide
  have e2 : IntKind.u64.max = 18446744073709551615 := by decide
  omega
theorem tellsLaw (inc : Int) (dead : Bool) (draw : Int) (W : World) (hw : (Lit.int IntKind.u64 draw).wf = true) : Gives Try.prog 7 #[.int .i64 inc, .bool dead, .int .u64 draw] W (.bool true) := (tells_d inc dead draw (u64_rng hw).1 (u64_rng hw).2).gives W
end Go.Proofs.Ytjbihgfdgaiecaa

namespace Go.Proofs.Ytjbihgfdgaiecaa.lawTells
open Go Go.ChangeShapes Go.WideShapes Go.ChangeAt Go.RowKit Go.Joins

set_option maxRecDepth 100000 in
theorem contract (H : Type) (enc : TypeId × Value → H) (W : World) (base : Nat) (args : Array Value) (ds gs : List (DataW H)) (before : List MemPlace)
    (hval : ∀ (j : Nat) t v, Try.f7.params[j]? = some t → args[j]? = some v → Value.okWide Try.prog W .any base t v)
    (hW : DataW.Whole enc Try.prog Try.f7.params.toList Rows.swimTellsSpec.vars false W args.toList ds gs before)
    (hsz : (DataW.weightsEach Try.prog (Try.f7.params.toList ++ (OpenSpec.ofChange Rows.swimTellsSpec).bare.plain.varTypes Try.prog) (ds ++ gs)).all (· ≤ reachBytes) = true) :
    Calls Try.prog 7 args W fun e W' => ∃ v, e = .returned v ∧ Rows.swimTellsSpec.post enc Try.prog Try.f7 false true false false W args v W' := by
  have hW' := hW
  obtain ⟨p, q, hA0, hV, rfl, hfz, hnd⟩ := hW
  have hA : DataW.TrodAll enc Try.prog W 0 (fun _ => true) true Try.f7.params.toList args.toList ds p := hA0
  have hA' := hA
  rw [Try.params7] at hA hval
  obtain ⟨v0, vs0, d0, ds0, p0, q0, e0, rfl, rfl, g0, r0⟩ := trodAll_cons hA
  obtain ⟨v1, vs1, d1, ds1, p1, q1, e1, rfl, rfl, g1, r1⟩ := trodAll_cons r0
  obtain ⟨v2, vs2, d2, ds2, p2, q2, e2, rfl, rfl, g2, r2⟩ := trodAll_cons r1
  obtain ⟨e3, rfl, rfl⟩ := trodAll_nil r2
  obtain rfl : args = #[v0, v1, v2] := by
    apply Array.toList_inj.1
    rw [e0, e1, e2, e3]
  obtain ⟨rfl, rfl⟩ := trodVars_none hV
  obtain ⟨n0, rfl, _, _, _⟩ := open_int Try.underlying3 (hval 0 _ v0 rfl rfl) g0
  obtain ⟨n1, rfl, _, _⟩ := open_bool Try.underlying4 (hval 1 _ v1 rfl rfl) g1
  obtain ⟨n2, rfl, _, _, wn2⟩ := open_int Try.underlying40 (hval 2 _ v2 rfl rfl) g2
  have hlt := fun (x : MemPlace) hx => hW'.lt x hx
  simp only [List.append_nil] at hW' hlt hA'
  refine Calls.mono (tellsLaw n0 n1 n2 W wn2) fun e W' ⟨he, x, hx⟩ => ?_
  subst he
  subst hx
  exact ⟨_, rfl, post_law (pv := []) hW' x.below (trodAll_cons_mk (shut_bool Try.underlying4 _) trodAll_mk0) (below_trodAll laidOut x.below (by kernel_rfl) hA' hlt) rfl (by simp only [List.append_nil])⟩

theorem reads (os : Os) {H : Type} (enc : TypeId × Value → H) : ∃ places, DataW.whole enc Try.prog ((World.laidAll Try.prog os Rows.swimTellsRow.laid).forCall (fun _ _ => 0) ⟨#[], #[.int .i64 0, .bool false, .int .u64 0], []⟩).memory Try.f7.params.toList Rows.swimTellsSpec.vars false (#[.int .i64 0, .bool false, .int .u64 0] : Array Value).toList 8 = some ([.lit (.int .i64 0), .lit (.bool false), .lit (.int .u64 0)], [], places) :=
  ⟨[], by kernel_rfl⟩

set_option maxRecDepth 100000 in
theorem lifted (os : Os) (started : os.Started) (H : Type) (enc : TypeId × Value → H) (F : Stop.Interp) :
    ReturnsInHanded {} Try.checked os 7 .any ((OpenSpec.ofChange Rows.swimTellsSpec).preRow enc Try.prog Try.f7 Rows.swimTellsRow.domain false Rows.swimTellsRow.laid) (((OpenSpec.ofChange Rows.swimTellsSpec).at F).post enc Try.prog Try.f7 false true false false) := by
  obtain ⟨places, hx⟩ := reads os enc
  refine returnsInHanded_of_row (C := Try.checked) (s := OpenSpec.ofChange Rows.swimTellsSpec) own started (by kernel_rfl) Try.func7
    (witness_row_at (enc := enc) (C := Try.checked) false (World.laidAll Try.prog os Rows.swimTellsRow.laid) #[.int .i64 0, .bool false, .int .u64 0] (World.laidAll_os _ _ _) (by kernel_rfl) (by kernel_rfl) (by kernel_rfl)
      (OpenSpec.preRow_of_cond 8 hx (by kernel_rfl) (fun k hk => by cases hk) (by kernel_rfl) (laidMet_laidAll _ (by kernel_rfl) (by kernel_rfl)))) ?_
  intro W base args ds gs before hval hW _ _ hsz _ _ _
  exact contract H enc W base args ds gs before hval hW hsz

theorem said : Rows.SwimTellsSaid :=
  OpenClaim.holds_of_cond 7 Try.f7 rfl rfl rfl rfl rfl rfl rfl ⟨rfl, rfl, rfl, rfl, rfl⟩ rfl rfl rfl rfl rfl (by kernel_rfl) Try.func7 (by kernel_rfl)
    (of_decide_eq_true (by kernel_rfl)) (by unfold Func.isWrapper; first | (rw [if_pos (by decide +kernel)]; kernel_rfl) | (rw [if_neg (by decide +kernel)]; exact ⟨rfl, rfl⟩))
    (fun os started H enc _ F => by rw [OpenClaim.pre_eq_preRow]; exact lifted os started H enc F)
end Go.Proofs.Ytjbihgfdgaiecaa.lawTells
