/- What the statements' own helpers give: heard (a view of claims), awake; and Here where nothing is told. -/
import Derived.Test.YtbddjhkoikcgjaaAll
import Derived.Test.YtbddjhkoikcgjaaOf
import Derived.LoopTactic
namespace Go.Proofs.Ytbddjhkoikcgjaa
open Go Go.RowKit Go.Shelf

/-- A list of claims in memory. -/
def ListAt (W : World) (v : Value) (l : List Cl) : Prop :=
  (l = [] ∧ ∃ p cap, v = .slice p 0 cap) ∨ ∃ b o cap, v = .slice (some ⟨b, o, none⟩) l.length cap ∧ b < W.heap.size ∧ ∀ k c, l[k]? = some c → W.cell? ⟨b, o + k * 3, none⟩ = some (.int .i64 c.n) ∧ W.cell? ⟨b, o + k * 3 + 1, none⟩ = some (.int .i64 c.i) ∧ W.cell? ⟨b, o + k * 3 + 2, none⟩ = some (.int .i64 c.h)
theorem ListAt.below {W W' : World} {v : Value} {l : List Cl} (h : ListAt W v l) (hb : Below W.heap.size W W') : ListAt W' v l := by
  rcases h with h | ⟨b, o, cap, hv, hlt, hc⟩
  · exact .inl h
  · exact .inr ⟨b, o, cap, hv, Nat.lt_of_lt_of_le hlt hb.size, fun k c hk => by
      obtain ⟨h0, h1, h2⟩ := hc k c hk
      exact ⟨(hb.cell (p := ⟨b, _, none⟩) hlt).trans h0, (hb.cell (p := ⟨b, _, none⟩) hlt).trans h1, (hb.cell (p := ⟨b, _, none⟩) hlt).trans h2⟩⟩

def heardL (l : List Cl) : Vw := hearAll emptyV (l.take 100)
theorem hear_step (l : List Cl) (k : Nat) (c : Cl) (hk : l[k]? = some c) (h : k < 100) : hearAll emptyV ((l.take (k + 1)).take 100) = hearV (hearAll emptyV ((l.take k).take 100)) c := by
  rw [List.take_take, List.take_take, Nat.min_eq_right (by omega), Nat.min_eq_right (by omega), List.take_add_one, hk]
  exact hearAll_snoc _ _ _
theorem hear_stays (l : List Cl) (k : Nat) (h : 100 ≤ k) : hearAll emptyV ((l.take (k + 1)).take 100) = hearAll emptyV ((l.take k).take 100) := by
  rw [List.take_take, List.take_take, Nat.min_eq_left (by omega), Nat.min_eq_left (by omega)]
theorem heard_end (l : List Cl) : hearAll emptyV ((l.take l.length).take 100) = heardL l := by rw [List.take_length]; rfl

set_option maxHeartbeats 2000000 in
set_option maxRecDepth 100000 in
theorem heard_any (v : Value) (l : List Cl) (w : World) (h : ListAt w v l) (hl : l.length ≤ 1000) :
    Calls Try.prog 15 #[v] w fun e w' => e = .returned (.pointer (some ⟨w.heap.size, 0, none⟩)) ∧ ViewAt w' w.heap.size (heardL l) ∧ Below w.heap.size w w' := by
  rcases h with ⟨rfl, p, cap, rfl⟩ | ⟨b, o, cap, rfl, hlt, hc⟩
  · go_enter Try.func15, Try.ntmps15
    go_wp2_with (go_at_call 7; refine (new_any _).mono ?_; rintro e w' ⟨rfl, rfl⟩)
    go_loopw [9] (fun i wr => i = .int .i64 0 ∧ wr = w.alloc (.cells (cellsV emptyV) 42)) (fun i _ => 0)
    case atStart => exact ⟨rfl, rfl⟩
    case round =>
      obtain ⟨rfl, rfl⟩ := hrel
      go_wp2
      go_ret
      exact ⟨rfl, heap_alloc_new _ _, (Below.refl _ _).alloc (Nat.le_refl _) _⟩
  · have HC := Lib.hid hc
    clear hc
    go_enter Try.func15, Try.ntmps15
    go_wp2_with (go_at_call 7; refine (new_any _).mono ?_; rintro e w' ⟨rfl, rfl⟩)
    go_loopw [9] (fun i wr => ∃ k : Nat, k ≤ l.length ∧ i = .int .i64 k ∧ ViewAt wr w.heap.size (hearAll emptyV ((l.take k).take 100)) ∧ Below w.heap.size w wr) (fun i _ => l.length - (intOf i).toNat)
    case atStart => exact ⟨0, by omega, rfl, heap_alloc_new _ _, (Below.refl _ _).alloc (Nat.le_refl _) _⟩
    case round =>
      obtain ⟨k, hk, rfl, hv, hB⟩ := hrel
      by_cases hkl : k < l.length
      · obtain ⟨⟨n, i, s⟩, hkc⟩ : ∃ c, l[k]? = some c := ⟨_, List.getElem?_eq_getElem hkl⟩
        obtain ⟨h0, h1, h2⟩ := HC.out k _ hkc
        have hc0 : wr.cell? ⟨b, o + k * 3, none⟩ = some (.int .i64 n) := (hB.cell (p := ⟨b, _, none⟩) hlt).trans h0
        have hc1 : wr.cell? ⟨b, o + k * 3 + 1, none⟩ = some (.int .i64 i) := (hB.cell (p := ⟨b, _, none⟩) hlt).trans h1
        have hc2 : wr.cell? ⟨b, o + k * 3 + 2, none⟩ = some (.int .i64 s) := (hB.cell (p := ⟨b, _, none⟩) hlt).trans h2
        clear h0 h1 h2
        have hsz := hB.size
        by_cases h100 : k < 100
        · have HS := Lib.hid (hear_step l k _ hkc h100)
          obtain ⟨U, hU⟩ : ∃ U, hearAll emptyV ((l.take k).take 100) = U := ⟨_, rfl⟩
          rw [hU] at hv HS
          have hca := (hear_any w.heap.size U ⟨n, i, s⟩ (wr.alloc (.cells #[.int .i64 n, .int .i64 i, .int .i64 s] 23)) (hv.kept (World.grownBy_alloc _ _ none) (by simp))).mono (R' := fun e W' => e = .returned (.bool (heardB U ⟨n, i, s⟩)) ∧ Hid (ViewAt W' w.heap.size (hearAll emptyV ((l.take (k + 1)).take 100)) ∧ Below w.heap.size w W'))
            (fun e W' ⟨he, hv', hg'⟩ => ⟨he, Lib.hid ⟨by rw [HS.out]; exact hv', (hB.alloc hsz _).grown hg' (by simp; omega) (fun j e => by cases e; exact Nat.le_refl _)⟩⟩)
          have HH := Lib.hid hca
          have HB := Lib.hid hB
          clear hca HS hU hkc hv hB
          unfold Cl.val at HH
          dsimp only at HH
          go_wp2_with (go_at_call 8; refine HH.out.mono ?_; rintro e W' ⟨rfl, HK⟩)
          go_roundw
          case rel => exact ⟨k + 1, by omega, by go_num, HK.out⟩
          case measure => simp [intOf]; omega
        · have HS := Lib.hid (hear_stays l k (by omega))
          have HB := Lib.hid hB
          have HV := Lib.hid hv
          clear hkc hv hB
          go_wp2_with fail
          go_roundw
          case rel => exact ⟨k + 1, by omega, by go_num, by rw [HS.out]; exact HV.out.kept (World.grownBy_alloc _ _ none) (by simp), HB.out.alloc hsz _⟩
          case measure => simp [intOf]; omega
      · obtain rfl : k = l.length := by omega
        rw [heard_end] at hv
        have HB := Lib.hid hB
        have HV := Lib.hid hv
        clear hv hB
        go_wp2_with fail
        go_ret
        exact ⟨rfl, HV.out, HB.out⟩

theorem field_inc (n i h : Int) (w : World) : (Instr.field 23 (.agg #[.int .i64 n, .int .i64 i, .int .i64 h]) 1).run Try.prog w = .ok (.int .i64 i) w := by kernel_rfl

set_option maxHeartbeats 2000000 in
set_option maxRecDepth 100000 in
theorem awake_any (w : World) : Gives Try.prog 14 #[] w (.bool true) := by
  unfold Gives
  have HA : Hid (∀ W, ViewAt W w.heap.size emptyV → Calls Try.prog 8 #[.pointer (some ⟨w.heap.size, 0, none⟩), .agg #[.int .i64 3, .int .i64 1, .int .i64 1]] W fun e w' => e = .returned (.bool true) ∧ Hid (ViewAt w' w.heap.size (hearV emptyV ⟨3, 1, 1⟩) ∧ W.grownBy w' (some w.heap.size))) :=
    Lib.hid (fun W h => (hear_any w.heap.size emptyV ⟨3, 1, 1⟩ W h).mono fun e w' ⟨he, hr⟩ => ⟨he.trans (by rw [show heardB emptyV ⟨3, 1, 1⟩ = true by decide]), hr⟩)
  have HB : Hid (∀ W, ViewAt W w.heap.size (hearV emptyV ⟨3, 1, 1⟩) → Calls Try.prog 8 #[.pointer (some ⟨w.heap.size, 0, none⟩), .agg #[.int .i64 3, .int .i64 0, .int .i64 2]] W fun e w' => e = .returned (.bool false) ∧ Hid (ViewAt w' w.heap.size (hearV (hearV emptyV ⟨3, 1, 1⟩) ⟨3, 0, 2⟩) ∧ W.grownBy w' (some w.heap.size))) :=
    Lib.hid (fun W h => (hear_any w.heap.size (hearV emptyV ⟨3, 1, 1⟩) ⟨3, 0, 2⟩ W h).mono fun e w' ⟨he, hr⟩ => ⟨he.trans (by rw [show heardB (hearV emptyV ⟨3, 1, 1⟩) ⟨3, 0, 2⟩ = false by decide]), hr⟩)
  have HO : Hid (∀ W, ViewAt W w.heap.size (hearV (hearV emptyV ⟨3, 1, 1⟩) ⟨3, 0, 2⟩) → Gives Try.prog 9 #[.pointer (some ⟨w.heap.size, 0, none⟩), .int .i64 3] W (.agg #[.int .i64 3, .int .i64 1, .int .i64 1])) :=
    Lib.hid (fun W h => (of_any w.heap.size _ 3 W h).cast (by rfl))
  have hfi := field_inc 3 1 1
  go_enter Try.func14, Try.ntmps14
  go_wp2_with (go_at_call 7; refine (new_any _).mono ?_; rintro e w' ⟨rfl, rfl⟩)
  refine (HA.out _ (heap_alloc_new _ _)).mono ?_
  rintro e W1 ⟨rfl, H1⟩
  go_wp2_with fail
  refine (HB.out _ H1.out.1).mono ?_
  rintro e W2 ⟨rfl, H2⟩
  go_wp2_with fail
  refine (HO.out _ H2.out.1).mono ?_
  rintro e W3 ⟨rfl, x, hx⟩
  have H3 := Lib.hid hx
  clear hx
  go_wp2_with fail
  go_ret
  refine ⟨rfl, Later.ex ?_⟩
  rw [H3.out]
  refine ext_later ?_ x
  exact (((Below.refl _ w).alloc (Nat.le_refl _) _).grown H1.out.2 (by simp) (fun j e => by cases e; exact Nat.le_refl _)).grown H2.out.2 (Nat.le_trans (by simp) H1.out.2.size) (fun j e => by cases e; exact Nat.le_refl _)
end Go.Proofs.Ytbddjhkoikcgjaa
