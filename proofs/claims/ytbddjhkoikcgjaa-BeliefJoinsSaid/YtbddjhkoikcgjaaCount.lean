/- Join: everything that one view believes is heard by another one (or by the same), and counted where it was stored. -/
import Derived.Test.YtbddjhkoikcgjaaTold
import Derived.Test.YtbddjhkoikcgjaaHear
namespace Go.Proofs.Ytbddjhkoikcgjaa
open Go Go.RowKit Go.Shelf
attribute [local go_sem] Oper.semAt_some

def hearAll (V : Vw) (l : List Cl) : Vw := l.foldl hearV V
def heardN (V : Vw) : List Cl → Nat
  | [] => 0
  | c :: l => (heardB V c).toNat + heardN (hearV V c) l
theorem hearAll_snoc (V : Vw) (l : List Cl) (c : Cl) : hearAll V (l ++ [c]) = hearV (hearAll V l) c := by simp [hearAll]
theorem heardN_snoc (V : Vw) (l : List Cl) (c : Cl) : heardN V (l ++ [c]) = heardN V l + (heardB (hearAll V l) c).toNat := by
  induction l generalizing V with
  | nil => simp [heardN, hearAll]
  | cons d l ih => simp only [List.cons_append, heardN, ih]; simp only [hearAll, List.foldl_cons]; omega
theorem heardN_le (V : Vw) (l : List Cl) : heardN V l ≤ l.length := by
  induction l generalizing V with
  | nil => simp [heardN]
  | cons d l ih => have := ih (hearV V d); have h2 := Bool.toNat_le (heardB V d); simp only [heardN, List.length_cons]; omega
theorem saidUp_len (V : Vw) (k : Nat) : (saidUp V k).length ≤ k := by
  have := List.length_filter_le (fun c : Cl => c.h != 0) ((List.range k).map fun j => V j)
  simpa [saidUp] using this

def funcHear (p : Option Addr) : Value := .func (.func 8) #[.pointer p] #[]
def funcSaid (p : Option Addr) : Value := .func (.func 19) #[.pointer p] #[]

set_option maxHeartbeats 2000000 in
set_option maxRecDepth 100000 in
theorem count_view (b1 b2 : Nat) (V1 V2 : Vw) (w : World) (h1 : ViewAt w b1 V1) (h2 : ViewAt w b2 V2) :
    Calls Try.prog 20 #[funcSaid (some ⟨b2, 0, none⟩), funcHear (some ⟨b1, 0, none⟩)] w fun e w' => e = .returned (.int .i64 (heardN V1 (saidV V2))) ∧ ViewAt w' b1 (hearAll V1 (saidV V2)) ∧ w.grownBy w' (some b1) := by
  refine (callsIn_wide (n := 0)).1 ?_
  have hlt := h1.lt
  have H1 := Lib.hid h1
  have H2 := Lib.hid h2
  clear h1 h2
  unfold funcSaid funcHear
  refine callsIn_of_wp_marks Try.func20 rfl trivial ?_ rfl
  simp only [Try.ntmps20, List.size_toArray, List.length_cons, List.length_nil, Nat.reduceAdd, Nat.reduceSub, Array.replicate_succ, Array.replicate_zero, List.push_toArray, List.append_toArray, List.nil_append, List.cons_append]
  gi_wp2
  have bF := Boxed.new w 26 (.func (.func 8) #[.pointer (some ⟨b1, 0, none⟩)] #[])
  have bN := Boxed.new (w.alloc (.cells #[.func (.func 8) #[.pointer (some ⟨b1, 0, none⟩)] #[]] 26)) 3 (.int .i64 0)
  rw [World.size_alloc] at bN
  have bF' := bF.alloc (.cells #[.int .i64 0] 3)
  obtain ⟨w2, hw2⟩ : ∃ w2, (w.alloc (.cells #[.func (.func 8) #[.pointer (some ⟨b1, 0, none⟩)] #[]] 26)).alloc (.cells #[.int .i64 0] 3) = w2 := ⟨_, rfl⟩
  have hB2 : Below w.heap.size w w2 := by rw [← hw2]; exact ((Below.refl _ w).alloc (Nat.le_refl _) _).alloc (by simp) _
  have hs2 : w2.heap.size = w.heap.size + 2 := by rw [← hw2]; simp
  rw [hw2] at bN bF' ⊢
  have hlen : (saidV V2).length ≤ 8 := saidUp_len V2 8
  refine wp_range (gf := 19) (fb := #[.pointer (some ⟨b2, 0, none⟩)]) (lb := #[]) rfl (enters_of Try.func19 (by kernel_rfl) rfl)
    (believed_tells b2 V2 w2 (H2.out.later hB2)) (fun c => .cells #[.int .i64 c.n, .int .i64 c.i, .int .i64 c.h] 23)
    (fun pre W => ViewAt W b1 (hearAll V1 pre) ∧ Boxed W w.heap.size 26 (.func (.func 8) #[.pointer (some ⟨b1, 0, none⟩)] #[]) ∧ Boxed W (w.heap.size + 1) 3 (.int .i64 (heardN V1 pre)) ∧ w.grownBy W (some b1))
    ?abide ⟨H1.out.later hB2, bF', bN, grownBy_of_below hB2 _⟩
    (fun c B => { tmps := #[.func (.func 19) #[.pointer (some ⟨b2, 0, none⟩)] #[], .func (.func 8) #[.pointer (some ⟨b1, 0, none⟩)] #[], undef, .pointer (some ⟨w.heap.size, 0, none⟩), .int .i64 0, .pointer (some ⟨w.heap.size + 1, 0, none⟩), .pointer (some ⟨B, 0, none⟩), .func (.func 19) #[.pointer (some ⟨b2, 0, none⟩)] #[], c.val, undef, undef, undef, undef, undef, undef], defers := [] })
    ?assign ?body ?done
  case abide =>
    rintro pre X Y row ⟨hv, hf, hn, hg⟩ hxy hrow
    have ne : ∀ k o, X.heap[k]? = some o → o.isCells = true → some k ≠ row := fun k o hk ho e => by
      obtain ⟨_, o', ho', hc⟩ := hrow k e.symm
      rw [hk] at ho'; cases ho'; rw [ho] at hc; cases hc
    refine ⟨hv.kept hxy (ne _ _ hv rfl), hf.kept hxy (ne _ _ hf rfl), hn.kept hxy (ne _ _ hn rfl), ?_⟩
    exact ⟨hxy.os.trans hg.os, hxy.tape.trans hg.tape, hxy.output.trans hg.output, Nat.le_trans hg.size hxy.size, fun k hk hne => (hxy.block k (Nat.lt_of_lt_of_le hk hg.size) (fun e => by have := (hrow k e.symm).1; omega)).trans (hg.block k hk hne)⟩
  case assign =>
    rintro l ⟨n, i, h⟩ W K hK
    unfold Cl.val at hK ⊢
    dsimp only at hK ⊢
    gi_wp2
    exact hK
  case body =>
    rintro l pre ⟨n, i, h⟩ post B W hx ⟨hv, hf, hn, hg⟩ hc hB
    have hpl : heardN V1 pre ≤ 7 := by
      have h1 := heardN_le V1 pre
      rw [hx, List.length_append, List.length_cons] at hlen
      omega
    have hc0 : W.cell? ⟨B, 0, none⟩ = some (.int .i64 n) := by simp [World.cell?, hc]
    have hc1 : W.cell? ⟨B, 1, none⟩ = some (.int .i64 i) := by simp [World.cell?, hc]
    have hc2 : W.cell? ⟨B, 2, none⟩ = some (.int .i64 h) := by simp [World.cell?, hc]
    have hfc := hf.cell
    have hbt : b1 < w2.heap.size := by omega
    have hbn1 : some w.heap.size ≠ some b1 := by simp; omega
    have hbn2 : some (w.heap.size + 1) ≠ some b1 := by simp; omega
    have hall := hearAll_snoc V1 pre ⟨n, i, h⟩
    have hnum := heardN_snoc V1 pre ⟨n, i, h⟩
    obtain ⟨q, hq⟩ : ∃ q, heardN V1 pre = q := ⟨_, rfl⟩
    obtain ⟨U, hU⟩ : ∃ U, hearAll V1 pre = U := ⟨_, rfl⟩
    rw [hq] at hn hnum hpl
    rw [hU] at hv hall hnum
    have hcall : CallsIn (Fence.wide.inRound l) 0 Try.prog 8 #[.pointer (some ⟨b1, 0, none⟩), .agg #[.int .i64 n, .int .i64 i, .int .i64 h]] W fun e W' => e = .returned (.bool (heardB U ⟨n, i, h⟩)) ∧ Hid (ViewAt W' b1 (hearAll V1 (pre ++ [⟨n, i, h⟩])) ∧ Boxed W' w.heap.size 26 (.func (.func 8) #[.pointer (some ⟨b1, 0, none⟩)] #[]) ∧ Boxed W' (w.heap.size + 1) 3 (.int .i64 q) ∧ w.grownBy W' (some b1) ∧ KeepsFrom w2.heap.size W W') ∧ W'.cell? ⟨w.heap.size + 1, 0, none⟩ = some (.int .i64 q) ∧ W'.frozen? ⟨w.heap.size + 1, 0, none⟩ = false :=
      CallsIn.inRound l (callsIn_wide.2 ((hear_any b1 U ⟨n, i, h⟩ W hv).mono fun e W' ⟨he, hv', hg'⟩ =>
        have hn' := hn.kept hg' hbn2
        ⟨he, Lib.hid ⟨by rw [hall]; exact hv', hf.kept hg' hbn1, hn', grownBy_trans hg hg', KeepsFrom.of_grownBy hg' (fun j e => by cases e; exact hbt)⟩, hn'.cell, hn'.frozen⟩))
    have HC := Lib.hid hcall
    have HN := Lib.hid hnum
    clear hcall hnum hall hv hf hn hg hc hU hq hx hB
    unfold Cl.val
    dsimp only
    cases hb : heardB U ⟨n, i, h⟩
    · rw [hb] at HC HN
      clear hb
      gi_wp2
      refine ⟨trivial, rfl, HC.out.mono ?_⟩
      rintro e W' ⟨rfl, HK, hk1, hk2⟩
      gi_wp2
      obtain ⟨k1, k2, k3, k4, k5⟩ := HK.out
      exact roundEnd_mk k5 ⟨k1, k2, by rw [HN.out]; exact k3, k4⟩
    · rw [hb] at HC HN
      clear hb
      gi_wp2
      refine ⟨trivial, rfl, HC.out.mono ?_⟩
      rintro e W' ⟨rfl, HK, hk1, hk2⟩
      gi_wp2
      obtain ⟨k1, k2, k3, k4, k5⟩ := HK.out
      refine roundEnd_mk (k5.trans ?_) ⟨k1.kept (grownBy_setCell' _ _ _) (fun e => hbn2 e.symm), k2.other (by omega) _, by rw [HN.out]; exact k3.set _, ?_⟩
      · exact (KeepsOthers.setCell _ _ _).from _
      · exact ⟨k4.os, k4.tape, k4.output, Nat.le_trans k4.size (by simp [World.setCell]), fun k hk hne => (Below.heap_setCell _ _ _ k (by dsimp only; omega)).trans (k4.block k hk hne)⟩
  case done =>
    rintro D W hD ⟨hv, hf, hn, hg⟩ hK
    have hc := hn.cell
    have HV := Lib.hid hv
    clear hv
    gi_wp2
    refine ⟨by simp, .inl ⟨_, _, rfl, run_takeDeferred hK, ?_⟩⟩
    have hgp : w.grownBy (W.putObj D (.deferred none)) (some b1) := ⟨hg.os, hg.tape, hg.output, by simpa using hg.size, fun k hk hne => (World.putObj_heap_other (by omega)).trans (hg.block k hk hne)⟩
    exact ⟨_, results_tmp rfl _ _ _, rfl, (World.putObj_heap_other (by omega)).trans HV.out, hgp⟩
end Go.Proofs.Ytbddjhkoikcgjaa
