/- The iterator over what is believed: it tells the claims in which something is said, in the order of their nodes, whatever is done with each. -/
import Derived.Test.YtbddjhkoikcgjaaRange
import Derived.RangeFuncBound
import Derived.Shelf.Abstract
import Derived.Shelf.RegionOpen
import Derived.WalkKit
import Derived.OwnWalkIn
import Derived.TacticsInMore
import Derived.LoopNIn
import Derived.LoopIn
namespace Go.Proofs.Ytbddjhkoikcgjaa
open Go Go.RowKit Go.Shelf
attribute [local go_sem] Oper.semAt_some

theorem wpListIn_load_row {F : Fence} {n : Nat} {P : Program} {ops : Array Oper} {rest : List Oper} {o : Oper} {a : Act} {w : World} {Q : Exit → Act → World → Prop} (hgd : o.guard = none) (ty : TypeId) (x : Operand) (ho : o.op = .load ty x)
    (g : Nat) (hx : a.eval x = .pointer (some ⟨g, 0, none⟩)) (t : TypeId) (cs : Array Value) (fr : Nat × Nat) (d : TypeDesc) (hg : w.heap[g]? = some (.cells cs t fr))
    (hu : P.underlying ty = some d) (hd : (match d with | .struct _ | .array _ _ => true | _ => false) = true) (hi : (P.info? ty).map (·.size) = some cs.size)
    (h : wpListIn F n P ops Q rest (a.put o.dst (.agg cs)) w) : wpListIn F n P ops Q (o :: rest) a w := by
  refine wpListIn_plain hgd fun K hK => ?_
  unfold Oper.wpIn
  refine ⟨by simp [Oper.about, ho], ?_⟩
  rw [Oper.semAt_plain F _ _ (by rw [ho]; intro c hc; cases hc)]
  simp only [execOp, ho, hx, Instr.loadAt, Instr.sureAddr, Sem.run_bind, Sem.run_pure, Result.andThen_ok, run_loadVar_row w g t ty cs fr d hg hu hd hi]
  exact hK _ _ h

/-- What is told when k nodes have been looked at. -/
def saidUp (V : Vw) (k : Nat) : List Cl := ((List.range k).map fun j => V j).filter fun c => c.h != 0
def saidV (V : Vw) : List Cl := saidUp V 8
theorem saidUp_hit (V : Vw) (k : Nat) (h : ((V k).h != 0) = true) : saidUp V (k + 1) = saidUp V k ++ [V k] := by simp [saidUp, List.range_succ, h]
theorem saidUp_miss (V : Vw) (k : Nat) (h : ((V k).h != 0) = false) : saidUp V (k + 1) = saidUp V k := by simp [saidUp, List.range_succ, h]
theorem saidUp_pre (V : Vw) (k j : Nat) : ∃ post, saidUp V (k + j) = saidUp V k ++ post := by
  induction j with
  | zero => exact ⟨[], by simp⟩
  | succ j ih =>
    obtain ⟨p, hp⟩ := ih
    by_cases h : ((V (k + j)).h != 0) = true
    · exact ⟨p ++ [V (k + j)], by rw [← Nat.add_assoc, saidUp_hit V _ h, hp, List.append_assoc]⟩
    · exact ⟨p, by rw [← Nat.add_assoc, saidUp_miss V _ (by simpa using h), hp]⟩
theorem saidV_split (V : Vw) (k : Nat) (hk : k < 8) (h : ((V k).h != 0) = true) : ∃ post, saidV V = saidUp V k ++ V k :: post := by
  obtain ⟨p, hp⟩ := saidUp_pre V (k + 1) (8 - (k + 1))
  rw [show k + 1 + (8 - (k + 1)) = 8 by omega, saidUp_hit V k h] at hp
  exact ⟨p, by rw [saidV, hp]; simp⟩

theorem index8 (V : Vw) (k : Nat) (hk : k < 8) (w : World) : (Instr.index 40 (.agg (cellsV V)) (.int .i64 k)).run Try.prog w = .ok (.agg #[.int .i64 (V k).n, .int .i64 (V k).i, .int .i64 (V k).h]) w := by
  rcases (by omega : k = 0 ∨ k = 1 ∨ k = 2 ∨ k = 3 ∨ k = 4 ∨ k = 5 ∨ k = 6 ∨ k = 7) with rfl | rfl | rfl | rfl | rfl | rfl | rfl | rfl <;> kernel_rfl

set_option maxHeartbeats 1000000 in
set_option maxRecDepth 100000 in
theorem believed_tells (b : Nat) (V : Vw) (w : World) (h : ViewAt w b V) : Tells Try.prog 19 #[.pointer (some ⟨b, 0, none⟩)] #[] Cl.val (saidV V) w := by
  intro l J W hW hJ hY h0
  have hv : ViewAt W b V := h.later hW
  have HV : Hid (W.heap[b]? = some (.cells (cellsV V) 42 (0, 0))) := Lib.hid hv
  clear h hv hW
  show CallsIn Fence.wide 0 Try.prog 19 #[.pointer (some ⟨b, 0, none⟩), .func (.yield l) #[] #[]] W fun e W' => (∃ v, e = .returned v) ∧ J (saidV V) W'
  refine callsIn_of_wp Try.func19 rfl trivial ?_ rfl
  simp only [Try.ntmps19, List.size_toArray, List.length_cons, List.length_nil, Nat.reduceAdd, Nat.reduceSub, Array.replicate_succ, Array.replicate_zero, List.push_toArray, List.append_toArray, List.nil_append, List.cons_append]
  gi_wp2_with (first | (refine wpListIn_load_row rfl _ _ rfl b rfl _ _ _ _ HV.out Try.underlying40 (by kernel_rfl) (by kernel_rfl) ?_))
  clear HV
  gi_loopw [12] (fun i wr => ∃ k : Nat, k ≤ 8 ∧ i = .int .i64 k ∧ J (saidUp V k) wr) (fun i _ => 8 - (intOf i).toNat)
  case atStart => exact ⟨0, by omega, rfl, h0⟩
  case round =>
    obtain ⟨k, hk, rfl, hj⟩ := hrel
    by_cases hlt : k < 8
    · have hidx := index8 V k hlt
      by_cases hz : ((V k).h != 0) = true
      · obtain ⟨post, hx⟩ := saidV_split V k hlt hz
        have hj1 : J (saidUp V k) (wr.alloc (.cells #[.int .i64 (V k).n, .int .i64 (V k).i, .int .i64 (V k).h] 23)) := hJ _ _ _ hj (World.grownBy_alloc _ _ _)
        obtain ⟨fn, tmps, assign, body, hy, hR⟩ := hY _ (V k) post _ hx hj1
        dsimp only [Cl.val] at hy
        have HH : Hid (saidUp V (k + 1) = saidUp V k ++ [V k]) := Lib.hid (saidUp_hit V k hz)
        have HX := Lib.hid hx
        clear hx hj1 hj
        gi_wp2
        refine ⟨rfl, hR.mono ?_⟩
        rintro e W3 ⟨rfl, hJ3⟩
        gi_wp2
        go_roundw
        case rel => exact ⟨k + 1, by omega, by go_num, by rw [HH.out]; exact hJ3⟩
        case measure => simp [intOf]; omega
      · have hz' : ((V k).h != 0) = false := by simpa using hz
        have HH : Hid (saidUp V (k + 1) = saidUp V k) := Lib.hid (saidUp_miss V k hz')
        have hj1 : J (saidUp V k) (wr.alloc (.cells #[.int .i64 (V k).n, .int .i64 (V k).i, .int .i64 (V k).h] 23)) := hJ _ _ _ hj (World.grownBy_alloc _ _ _)
        clear hz
        gi_wp2
        refine ⟨fun _ h => (by cases h), ?_⟩
        gi_wp2
        go_roundw
        case rel => exact ⟨k + 1, by omega, by go_num, by rw [HH.out]; exact hj1⟩
        case measure => simp [intOf]; omega
    · obtain rfl : k = 8 := by omega
      gi_wp2
      go_end0
      exact ⟨⟨_, rfl⟩, hj⟩
end Go.Proofs.Ytbddjhkoikcgjaa
