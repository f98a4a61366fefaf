/- Join's contract, and that of views of which nothing comes. -/
import Derived.Test.YtbddjhkoikcgjaaCount
namespace Go.Proofs.Ytbddjhkoikcgjaa
open Go Go.RowKit Go.Shelf
attribute [local go_sem] Oper.semAt_some

set_option maxHeartbeats 1000000 in
set_option maxRecDepth 100000 in
theorem believed_nil (w : World) : Tells Try.prog 19 #[.pointer none] #[] Cl.val [] w := by
  intro l J W hW hJ hY h0
  show CallsIn Fence.wide 0 Try.prog 19 #[.pointer none, .func (.yield l) #[] #[]] W fun e W' => (∃ v, e = .returned v) ∧ J [] W'
  refine callsIn_of_wp Try.func19 rfl trivial ?_ rfl
  simp only [Try.ntmps19, List.size_toArray, List.length_cons, List.length_nil, Nat.reduceAdd, Nat.reduceSub, Array.replicate_succ, Array.replicate_zero, List.push_toArray, List.append_toArray, List.nil_append, List.cons_append]
  gi_wp2
  refine bodyPost_ret (results_none rfl _ _ _) rfl ?_
  exact ⟨⟨_, rfl⟩, h0⟩

set_option maxHeartbeats 2000000 in
set_option maxRecDepth 100000 in
/-- Where the iterator tells nothing, nothing is heard. -/
theorem count_none (p1 p2 : Option Addr) (w : World) (hT : ∀ w', Below w.heap.size w w' → Tells Try.prog 19 #[.pointer p2] #[] Cl.val [] w') :
    Calls Try.prog 20 #[funcSaid p2, funcHear p1] w fun e w' => e = .returned (.int .i64 0) ∧ Below w.heap.size w w' := by
  refine (callsIn_wide (n := 0)).1 ?_
  unfold funcSaid funcHear
  refine callsIn_of_wp_marks Try.func20 rfl trivial ?_ rfl
  simp only [Try.ntmps20, List.size_toArray, List.length_cons, List.length_nil, Nat.reduceAdd, Nat.reduceSub, Array.replicate_succ, Array.replicate_zero, List.push_toArray, List.append_toArray, List.nil_append, List.cons_append]
  gi_wp2
  have bN := Boxed.new (w.alloc (.cells #[.func (.func 8) #[.pointer p1] #[]] 26)) 3 (.int .i64 0)
  rw [World.size_alloc] at bN
  obtain ⟨w2, hw2⟩ : ∃ w2, (w.alloc (.cells #[.func (.func 8) #[.pointer p1] #[]] 26)).alloc (.cells #[.int .i64 0] 3) = w2 := ⟨_, rfl⟩
  have hB2 : Below w.heap.size w w2 := by rw [← hw2]; exact ((Below.refl _ w).alloc (Nat.le_refl _) _).alloc (by simp) _
  have hs2 : w2.heap.size = w.heap.size + 2 := by rw [← hw2]; simp
  rw [hw2] at bN ⊢
  refine wp_range (gf := 19) (fb := #[.pointer p2]) (lb := #[]) rfl (enters_of Try.func19 (by kernel_rfl) rfl)
    (hT w2 hB2) (fun c => .cells #[.int .i64 c.n, .int .i64 c.i, .int .i64 c.h] 23)
    (fun _ W => Boxed W (w.heap.size + 1) 3 (.int .i64 0) ∧ Below w.heap.size w W)
    (OwnFrom.and (Own.from (boxed_own (w.heap.size + 1) 3 fun _ => .int .i64 0) _) (ownFrom_below (Nat.le_refl _) (by omega))) ⟨bN, hB2⟩
    (fun c B => { tmps := #[.func (.func 19) #[.pointer p2] #[], .func (.func 8) #[.pointer p1] #[], undef, .pointer (some ⟨w.heap.size, 0, none⟩), .int .i64 0, .pointer (some ⟨w.heap.size + 1, 0, none⟩), .pointer (some ⟨B, 0, none⟩), .func (.func 19) #[.pointer p2] #[], c.val, undef, undef, undef, undef, undef, undef], defers := [] })
    ?assign ?body ?done
  case assign =>
    rintro l ⟨n, i, h⟩ W K hK
    unfold Cl.val at hK ⊢
    dsimp only at hK ⊢
    gi_wp2
    exact hK
  case body =>
    intro l pre c post B W hx
    simp at hx
  case done =>
    rintro D W hD ⟨hn, hg⟩ hK
    have hc := hn.cell
    have HG := Lib.hid hg
    clear hg
    gi_wp2
    refine ⟨by simp, .inl ⟨_, _, rfl, run_takeDeferred hK, ?_⟩⟩
    exact ⟨_, results_tmp rfl _ _ _, rfl, HG.out.trans (belowK_b (w := w) (Nat.le_refl _) W D _ _ (by omega) hK rfl rfl)⟩

set_option maxHeartbeats 1000000 in
set_option maxRecDepth 100000 in
/-- **Join**: of two views, which may be one. -/
theorem join_any (b1 b2 : Nat) (V1 V2 : Vw) (w : World) (h1 : ViewAt w b1 V1) (h2 : ViewAt w b2 V2) :
    Calls Try.prog 12 #[.pointer (some ⟨b1, 0, none⟩), .pointer (some ⟨b2, 0, none⟩)] w fun e w' => e = .returned (.int .i64 (heardN V1 (saidV V2))) ∧ ViewAt w' b1 (hearAll V1 (saidV V2)) ∧ w.grownBy w' (some b1) := by
  have HC := Lib.hid (count_view b1 b2 V1 V2 w h1 h2)
  unfold funcSaid funcHear at HC
  clear h1 h2
  go_enter Try.func12, Try.ntmps12
  go_wp2_with (go_at_call 20; refine HC.out.mono ?_; rintro e w' ⟨rfl, hv, hg⟩; have HV := Lib.hid hv; have HG := Lib.hid hg; clear hv hg)
  go_ret
  exact ⟨rfl, HV.out, HG.out⟩

set_option maxHeartbeats 1000000 in
set_option maxRecDepth 100000 in
theorem join_none (p1 p2 : Option Addr) (w : World) (hT : ∀ w', Below w.heap.size w w' → Tells Try.prog 19 #[.pointer p2] #[] Cl.val [] w') :
    Gives Try.prog 12 #[.pointer p1, .pointer p2] w (.int .i64 0) := by
  unfold Gives
  have HC := Lib.hid (count_none p1 p2 w hT)
  unfold funcSaid funcHear at HC
  clear hT
  go_enter Try.func12, Try.ntmps12
  go_wp2_with (go_at_call 20; refine HC.out.mono ?_; rintro e w' ⟨rfl, hg⟩; have HG := Lib.hid hg; clear hg)
  go_ret
  exact ⟨rfl, Later.ex HG.out⟩
end Go.Proofs.Ytbddjhkoikcgjaa
