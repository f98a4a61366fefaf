/- Here, where nothing is told; a nil view's other answers. -/
import Derived.Test.YtbddjhkoikcgjaaHeard
namespace Go.Proofs.Ytbddjhkoikcgjaa
open Go Go.RowKit Go.Shelf
attribute [local go_sem] Oper.semAt_some

set_option maxHeartbeats 2000000 in
set_option maxRecDepth 100000 in
theorem here_none (p2 : Option Addr) (w : World) (hT : ∀ w', Below w.heap.size w w' → Tells Try.prog 19 #[.pointer p2] #[] Cl.val [] w') :
    Calls Try.prog 11 #[.pointer p2] w fun e w' => e = .returned (.slice none 0 0) ∧ Below w.heap.size w w' := by
  refine (callsIn_wide (n := 0)).1 ?_
  refine callsIn_of_wp_marks Try.func11 rfl trivial ?_ rfl
  simp only [Try.ntmps11, List.size_toArray, List.length_cons, List.length_nil, Nat.reduceAdd, Nat.reduceSub, Array.replicate_succ, Array.replicate_zero, List.push_toArray, List.append_toArray, List.nil_append, List.cons_append]
  gi_wp2
  have bN := Boxed.new w 30 (.slice none 0 0)
  obtain ⟨w2, hw2⟩ : ∃ w2, w.alloc (.cells #[.slice none 0 0] 30) = w2 := ⟨_, rfl⟩
  have hB2 : Below w.heap.size w w2 := by rw [← hw2]; exact (Below.refl _ w).alloc (Nat.le_refl _) _
  have hs2 : w2.heap.size = w.heap.size + 1 := by rw [← hw2]; simp
  rw [hw2] at bN ⊢
  refine wp_range (gf := 19) (fb := #[.pointer p2]) (lb := #[]) rfl (enters_of Try.func19 (by kernel_rfl) rfl)
    (hT w2 hB2) (fun c => .cells #[.int .i64 c.n, .int .i64 c.i, .int .i64 c.h] 23)
    (fun _ W => Boxed W w.heap.size 30 (.slice none 0 0) ∧ Below w.heap.size w W)
    (OwnFrom.and (Own.from (boxed_own w.heap.size 30 fun _ => .slice none 0 0) _) (ownFrom_below (Nat.le_refl _) (by omega))) ⟨bN, hB2⟩
    (fun c B => { tmps := #[.pointer p2, undef, .slice none 0 0, .pointer (some ⟨w.heap.size, 0, none⟩), .pointer (some ⟨B, 0, none⟩), .pointer p2, .func (.func 19) #[.pointer p2] #[], c.val, undef, undef, undef, undef, undef, undef, undef, undef, undef, undef, undef, undef, undef, undef], defers := [] })
    ?assign ?body ?done
  case assign =>
    rintro l ⟨n, i, h⟩ W K hK
    unfold Cl.val at hK ⊢
    dsimp only at hK ⊢
    gi_wp2
    exact hK
  case body =>
    intro l pre c post B W hx
    simp at hx
  case done =>
    rintro D W hD ⟨hn, hg⟩ hK
    have hc := hn.cell
    have HG := Lib.hid hg
    clear hg
    gi_wp2
    refine ⟨by simp, .inl ⟨_, _, rfl, run_takeDeferred hK, ?_⟩⟩
    exact ⟨_, results_tmp rfl _ _ _, rfl, HG.out.trans (belowK_b (w := w) (Nat.le_refl _) W D _ _ (by omega) hK rfl rfl)⟩

theorem here_nil (w : World) : Gives Try.prog 11 #[.pointer none] w (.slice none 0 0) :=
  (here_none none w fun _ _ => believed_nil _).mono fun _ _ ⟨he, hb⟩ => ⟨he, Later.ex hb⟩

theorem slice_of_own {W : World} {base : Nat} {e : TypeId} {size : Nat} {v : Value} {k : Nat} {xs : List Value} (h : W.ownsRow base e size v k xs) : ∃ p cap, v = .slice p k cap := by
  rcases h.2 with ⟨rfl, rfl⟩ | ⟨g, cap, _, rfl, _⟩
  · exact ⟨_, _, rfl⟩
  · exact ⟨_, _, rfl⟩

theorem all_nil (w : World) : Calls Try.prog 10 #[.pointer none] w fun e w' => ∃ p cap, e = .returned (.slice p 0 cap) ∧ ∃ x : Later w, w' = x.w :=
  (all_of none [] (by simp) w fun _ _ => believed_nil _).mono fun _ _ ⟨v, he, ho, hb⟩ => by
    obtain ⟨p, cap, rfl⟩ := slice_of_own ho
    exact ⟨p, cap, he, Later.ex hb⟩

set_option maxHeartbeats 1000000 in
theorem hear_nil (c : Cl) (w : World) : Gives Try.prog 8 #[.pointer none, c.val] w (.bool false) := by
  obtain ⟨n, i, s⟩ := c
  unfold Gives
  unfold Cl.val
  dsimp only
  go_enter Try.func8, Try.ntmps8
  go_wp2
  refine wp_region_later (by kernel_rfl) (by kernel_rfl) ?_
  repeat (go_big_quiet_step (fail))
  refine wpQuiet_nil ?_
  rintro _ ⟨x9, rfl⟩
  go_wp2
  all_goals go_ret
  all_goals exact ⟨rfl, Later.ex (by repeat (first | exact ext_refl _ | refine ext_alloc ?_ _ | refine ext_later ?_ _ | refine ext_drew ?_ | refine ext_drewN ?_ _))⟩
end Go.Proofs.Ytbddjhkoikcgjaa
