/- All: a new list of the claims that the iterator tells. -/
import Derived.Test.YtbddjhkoikcgjaaJoin
import Derived.Maps.AppendAt
namespace Go.Proofs.Ytbddjhkoikcgjaa
open Go Go.RowKit Go.Shelf
attribute [local go_sem] Oper.semAt_some

def cells3 (c : Cl) : List Value := [.int .i64 c.n, .int .i64 c.i, .int .i64 c.h]
def cellsOf (l : List Cl) : List Value := l.flatMap cells3
theorem cellsOf_snoc (l : List Cl) (c : Cl) : cellsOf (l ++ [c]) = cellsOf l ++ [.int .i64 c.n, .int .i64 c.i, .int .i64 c.h] := by simp [cellsOf, cells3]
theorem infoClaim : (Try.prog.info? 23).map (fun i => (i.zero, i.size, i.bytes)) = some (some (.agg #[.int .i64 0, .int .i64 0, .int .i64 0]), 3, 24) := by kernel_rfl

theorem cell_three_new (W : World) (x y z : Value) (t : TypeId) (j : Nat) (u : Value) (h : [x, y, z][j]? = some u) : (W.alloc (.cells #[x, y, z] t)).cell? ((⟨W.heap.size, 0, none⟩ : Addr).add j) = some u := by
  have hb := heap_alloc_new W (.cells #[x, y, z] t)
  have : ((⟨W.heap.size, 0, none⟩ : Addr).add j) = ⟨W.heap.size, j, none⟩ := by unfold Addr.add; split <;> simp_all
  rw [this]
  simp only [World.cell?, hb]
  simpa using h

set_option maxHeartbeats 2000000 in
set_option maxRecDepth 100000 in
theorem append_seq (p : Option Addr) (xs : List Cl) (hlen : xs.length ≤ 8) (w : World) (hT : ∀ w', Below w.heap.size w w' → Tells Try.prog 19 #[.pointer p] #[] Cl.val xs w') :
    Calls Try.prog 26 #[.slice none 0 0, funcSaid p] w fun e w' => ∃ v, e = .returned v ∧ w'.ownsRow w.heap.size 23 3 v xs.length (cellsOf xs) ∧ Below w.heap.size w w' := by
  refine (callsIn_wide (n := 0)).1 ?_
  obtain ⟨i0, hi, hz0, hz1, hz2⟩ := info_parts infoClaim
  unfold funcSaid
  refine callsIn_of_wp_marks Try.func26 rfl trivial ?_ rfl
  simp only [Try.ntmps26, List.size_toArray, List.length_cons, List.length_nil, Nat.reduceAdd, Nat.reduceSub, Array.replicate_succ, Array.replicate_zero, List.push_toArray, List.append_toArray, List.nil_append, List.cons_append]
  gi_wp2
  have bO := Boxed.new w 28 (.slice none 0 0)
  obtain ⟨w2, hw2⟩ : ∃ w2, w.alloc (.cells #[.slice none 0 0] 28) = w2 := ⟨_, rfl⟩
  have hB2 : Below w.heap.size w w2 := by rw [← hw2]; exact (Below.refl _ w).alloc (Nat.le_refl _) _
  have hs2 : w2.heap.size = w.heap.size + 1 := by rw [← hw2]; simp
  rw [hw2] at bO ⊢
  refine wp_range (gf := 19) (fb := #[.pointer p]) (lb := #[]) rfl (enters_of Try.func19 (by kernel_rfl) rfl)
    (hT w2 hB2) (fun c => .cells #[.int .i64 c.n, .int .i64 c.i, .int .i64 c.h] 23)
    (fun pre W => (∃ v, Boxed W w.heap.size 28 v ∧ W.ownsRow w.heap.size 23 3 v pre.length (cellsOf pre) ∧ True) ∧ Below w.heap.size w W)
    (OwnFrom.and (Own.from (holdsRow_own w.heap.size w.heap.size 28 23 3 (fun pre : List Cl => pre.length) cellsOf (fun _ _ => True)) _) (ownFrom_below (Nat.le_refl _) (by omega)))
    ⟨⟨_, bO, World.ownsRow_nil _ _ _ _, trivial⟩, hB2⟩
    (fun c B => { tmps := #[.slice none 0 0, .func (.func 19) #[.pointer p] #[], .pointer (some ⟨w.heap.size, 0, none⟩), undef, .slice none 0 0, .pointer (some ⟨B, 0, none⟩), .func (.func 19) #[.pointer p] #[], c.val, undef, undef, undef, undef, undef], defers := [] })
    ?assign ?body ?done
  case assign =>
    rintro l ⟨n, i, h⟩ W K hK
    unfold Cl.val at hK ⊢
    dsimp only at hK ⊢
    gi_wp2
    exact hK
  case body =>
    rintro l pre ⟨n, i, h⟩ post B W hx ⟨⟨v, hv, hrow, _⟩, hB⟩ hc hBB
    have hpl : pre.length ≤ 7 := by
      rw [hx, List.length_append, List.length_cons] at hlen
      omega
    have hc0 : W.cell? ⟨B, 0, none⟩ = some (.int .i64 n) := by simp [World.cell?, hc]
    have hc1 : W.cell? ⟨B, 1, none⟩ = some (.int .i64 i) := by simp [World.cell?, hc]
    have hc2 : W.cell? ⟨B, 2, none⟩ = some (.int .i64 h) := by simp [World.cell?, hc]
    have hvc := hv.cell
    have hsz := hB.size
    have HX := Lib.hid hx
    clear hx hc
    unfold Cl.val
    dsimp only
    gi_wp2_with (gi_at_builtin; refine wpListIn_append_own _ rfl _ _ 28 rfl w.heap.size 23 i0 (.agg #[.int .i64 0, .int .i64 0, .int .i64 0]) 3 24 Try.underlying28 hi hz0 hz1 hz2 rfl (by decide) _ _ _ rfl (hrow.alloc _) ⟨W.heap.size, 0, none⟩ 1 1 [.int .i64 n, .int .i64 i, .int .i64 h] rfl rfl (cell_three_new _ _ _ _ _) (by simp [Value.oneCell']) (by unfold maxLen; omega) (by omega) (by simp; omega) ?_; intro v' w1 hown' hgrow _; obtain ⟨g', cap', rfl⟩ := ownsRow_succ hown'; obtain ⟨hv1, hv2, hr2, hk2, hb2⟩ := hv.appended (by decide) hrow hB.size (Nat.le_refl _) hown' hgrow; have hd1 := hv1.cell; have hf1 := hv1.frozen)
    refine roundEnd_mk (hk2.from _) ⟨⟨_, hv2, ?_, trivial⟩, hB.trans hb2⟩
    rw [List.length_append, cellsOf_snoc]
    exact hr2
  case done =>
    rintro D W hD ⟨⟨v, hv, hrow, _⟩, hB⟩ hK
    have hc := hv.cell
    have HB := Lib.hid hB
    have HR := Lib.hid hrow
    clear hB hrow
    gi_wp2
    refine ⟨by simp, .inl ⟨_, _, rfl, run_takeDeferred hK, ?_⟩⟩
    exact ⟨_, results_tmp rfl _ _ _, v, rfl, ownsRow_putObj HR.out _ hK rfl, HB.out.trans (belowK_b (w := w) (Nat.le_refl _) W D _ _ (by omega) hK rfl rfl)⟩

set_option maxHeartbeats 1000000 in
set_option maxRecDepth 100000 in
theorem collect_any (p : Option Addr) (xs : List Cl) (hlen : xs.length ≤ 8) (w : World) (hT : ∀ w', Below w.heap.size w w' → Tells Try.prog 19 #[.pointer p] #[] Cl.val xs w') :
    Calls Try.prog 18 #[funcSaid p] w fun e w' => ∃ v, e = .returned v ∧ w'.ownsRow w.heap.size 23 3 v xs.length (cellsOf xs) ∧ Below w.heap.size w w' := by
  have HC := Lib.hid (append_seq p xs hlen w hT)
  unfold funcSaid at HC ⊢
  clear hT
  go_enter Try.func18, Try.ntmps18
  go_wp2_with (go_at_call 26; refine HC.out.mono ?_; rintro e w' ⟨v, rfl, hv, hg⟩; have HV := Lib.hid hv; have HG := Lib.hid hg; clear hv hg)
  go_ret
  exact ⟨v, rfl, HV.out, HG.out⟩

set_option maxHeartbeats 1000000 in
set_option maxRecDepth 100000 in
theorem all_of (p : Option Addr) (xs : List Cl) (hlen : xs.length ≤ 8) (w : World) (hT : ∀ w', Below w.heap.size w w' → Tells Try.prog 19 #[.pointer p] #[] Cl.val xs w') :
    Calls Try.prog 10 #[.pointer p] w fun e w' => ∃ v, e = .returned v ∧ w'.ownsRow w.heap.size 23 3 v xs.length (cellsOf xs) ∧ Below w.heap.size w w' := by
  have HC := Lib.hid (collect_any p xs hlen w hT)
  unfold funcSaid at HC
  clear hT
  go_enter Try.func10, Try.ntmps10
  go_wp2_with (go_at_call 18; refine HC.out.mono ?_; rintro e w' ⟨v, rfl, hv, hg⟩; have HV := Lib.hid hv; have HG := Lib.hid hg; clear hv hg)
  go_ret
  exact ⟨v, rfl, HV.out, HG.out⟩
/-- **All.** -/
theorem all_any (b : Nat) (V : Vw) (w : World) (h : ViewAt w b V) :
    Calls Try.prog 10 #[.pointer (some ⟨b, 0, none⟩)] w fun e w' => ∃ v, e = .returned v ∧ w'.ownsRow w.heap.size 23 3 v (saidV V).length (cellsOf (saidV V)) ∧ Below w.heap.size w w' :=
  all_of _ _ (saidUp_len V 8) w fun _ hb => believed_tells b V _ (h.later hb)
end Go.Proofs.Ytbddjhkoikcgjaa
