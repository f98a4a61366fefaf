/- What ProbeRounds keeps: an order, and two tables beside it. -/
import Derived.Test.YtfhfhneclplklaaProSt
import Derived.Test.YtfhfhneclplklaaOpenInts
import Derived.Test.YtfhfhneclplklaaITab
import Derived.Test.YtfhfhneclplklaaRoundMath
import Derived.Test.YtfhfhneclplklaaSteps
namespace Go.Proofs.Ytfhfhneclplklaa
open Go Go.RowKit

structure RS (w : World) (m : Nat) (me : Int) (rest : List Int) (tb : Nat) (fi : Nat → Int) (ta : Nat) (fa : Nat → Int) (W : World) : Prop where
  ex : ∃ H, ProO m me rest W H ∧ (∀ k, H k → w.heap.size ≤ k) ∧ ¬ H tb ∧ ¬ H ta
  tin : TabAt W tb fi
  task : TabAt W ta fa
  ne : tb ≠ ta
  below : Below w.heap.size w W
  ge : w.heap.size ≤ ta
section
variable {w W : World} {m tb ta : Nat} {me : Int} {rest : List Int} {fi fa : Nat → Int}
theorem RS.later (h : RS w m me rest tb fi ta fa W) (x : Later W) : RS w m me rest tb fi ta fa x.w := by
  obtain ⟨⟨H, ho, hH, h1, h2⟩, ht, hk, hn, hb, hg⟩ := h
  exact ⟨⟨H, (proO_owns m me rest).kept W x.w H ho x.below.size fun k hk => x.below.block k ((proO_owns m me rest).lt W H ho k hk), hH, h1, h2⟩, ht.later x, hk.later x, hn, below_later hb hb.size x, hg⟩
theorem RS.set (h : RS w m me rest tb fi ta fa W) (j : Nat) (hj : j < 8) (x : Int) : RS w m me rest tb fi ta (fun i => if i = j then x else fa i) (W.setCell ⟨ta, j, none⟩ (.int .i64 x)) := by
  obtain ⟨⟨H, ho, hH, h1, h2⟩, ht, hk, hn, hb, hg⟩ := h
  exact ⟨⟨H, (proO_owns m me rest).kept W _ H ho (by simp [World.setCell]) fun k hk => Below.heap_setCell _ _ _ k (fun e => h2 (by have e' : k = ta := e; rw [← e']; exact hk)), hH, h1, h2⟩, ht.other hn _ _, hk.set j hj x, hn, ext_setCell hb _ _ hg, hg⟩
theorem RS.cast {ga : Nat → Int} (h : RS w m me rest tb fi ta fa W) (e : ∀ j, j < 8 → fa j = ga j) : RS w m me rest tb fi ta ga W := ⟨h.ex, h.tin, h.task.cast e, h.ne, h.below, h.ge⟩
theorem RS.pst (h : RS w m me rest tb fi ta fa W) : PSt w m me rest W := by
  obtain ⟨⟨H, ho, hH, _, _⟩, _, _, _, hb, _⟩ := h
  exact ⟨⟨H, ho, hH⟩, hb⟩
/-- The order is new, then a table is made. -/
theorem rs_start {W0 : World} (hb : Below w.heap.size w W0) (ht : TabAt W0 tb fi) {W1 : World} (hn : NewEnd me W0 (.returned (.pointer (some ⟨W0.heap.size, 0, none⟩))) W1) :
    RS w W0.heap.size me [] tb fi W1.heap.size (fun _ => 0) (W1.alloc (.cells #[.int .i64 0, .int .i64 0, .int .i64 0, .int .i64 0, .int .i64 0, .int .i64 0, .int .i64 0, .int .i64 0] 41)) := by
  obtain ⟨_, ho, hb1⟩ := hn
  have hlt := ht.lt
  have hlt1 := (proO_owns W0.heap.size me []).lt W1 _ ho _ rfl
  have h1 := hb1.size
  refine ⟨⟨fun k => k = W0.heap.size, (proO_owns _ me []).kept W1 _ _ ho (by simp) fun k hk => by subst hk; exact (ext_alloc (ext_refl W1) _).block _ hlt1, fun k hk => by subst hk; exact hb.size, by omega, by omega⟩, (ht.later ⟨W1, hb1⟩).later ⟨_, ext_alloc (ext_refl W1) _⟩, heap_alloc_new W1 _, by omega, ?_, ?_⟩
  · exact (hb.trans (hb1.mono hb.size)).trans ((ext_alloc (ext_refl W1) _).mono (Nat.le_trans hb.size h1))
  · exact Nat.le_trans hb.size h1
def NextR (w : World) (m : Nat) (me : Int) (rest peers : List Int) (draw : Int) (tb : Nat) (fi : Nat → Int) (ta : Nat) (fa : Nat → Int) (e : Ending) (W' : World) : Prop := e = .returned (.int .i64 (nextOf me rest peers draw).1) ∧ RS w m me (nextOf me rest peers draw).2 tb fi ta fa W'
theorem nextR_any (h : RS w m me rest tb fi ta fa W) (peers : List Int) (draw : Int) (v : Value) (hrest : rest.length ≤ 100) (hs : IntsAt W v peers) (hl : peers.length * 8 ≤ 140737488351232) (h0 : 0 ≤ draw) (h1 : draw < 18446744073709551616) :
    Calls Try.prog 15 #[.pointer (some ⟨m, 0, none⟩), v, .int .u64 draw] W (NextR w m me rest peers draw tb fi ta fa) := by
  obtain ⟨⟨H, ho, hH, hn1, hn2⟩, ht, hk, hn, hb, hg⟩ := h
  refine (nextP_any m me rest peers draw v W H ho hrest hs hl h0 h1).mono fun e W' ⟨he, H', ho', hf, hH'⟩ => ⟨he, ⟨H', ho', fun k hk => ?_, fun h => ?_, fun h => ?_⟩, (hf.block _ ht.lt hn1).trans ht, (hf.block _ hk.lt hn2).trans hk, hn, hb.trans (hf.below hb.size hH), hg⟩
  · rcases hH' k hk with h2 | h2
    · exact hH k h2
    · exact Nat.le_trans hb.size h2
  · rcases hH' tb h with h2 | h2
    · exact hn1 h2
    · have := ht.lt; omega
  · rcases hH' ta h with h2 | h2
    · exact hn2 h2
    · have := hk.lt; omega
end

/-- How many of the eight. -/
def c8 (f : Nat → Bool) : Nat := (f 0).toNat + (f 1).toNat + (f 2).toNat + (f 3).toNat + (f 4).toNat + (f 5).toNat + (f 6).toNat + (f 7).toNat
theorem peersF_step (f : Nat → Bool) (k : Nat) : (peersF f (k + 1)).length = (peersF f k).length + (f k).toNat := by
  cases h : f k with
  | true => rw [peersF_hit f k h, List.length_append]; rfl
  | false => rw [peersF_miss f k h]; rfl
theorem peersF_c8 (f : Nat → Bool) : (peersF f 8).length = c8 f := by
  rw [peersF_step, peersF_step, peersF_step, peersF_step, peersF_step, peersF_step, peersF_step, peersF_step]
  simp [peersF, c8]
theorem c8_up {f g : Nat → Bool} {m : Nat} (hm : m < 8) (h0 : f m = false) (h1 : g m = true) (e : ∀ j, j ≠ m → g j = f j) : c8 g = c8 f + 1 := by
  unfold c8
  rcases (by omega : m = 0 ∨ m = 1 ∨ m = 2 ∨ m = 3 ∨ m = 4 ∨ m = 5 ∨ m = 6 ∨ m = 7) with rfl | rfl | rfl | rfl | rfl | rfl | rfl | rfl
  all_goals
    rw [h0, h1]
    simp [e]
    try omega
theorem c8_le (f : Nat → Bool) : c8 f ≤ 8 := by
  rw [← peersF_c8]
  exact peersF_len f 8
theorem c8_same {f g : Nat → Bool} (e : ∀ j, j < 8 → g j = f j) : c8 g = c8 f := by
  unfold c8
  rw [e 0 (by omega), e 1 (by omega), e 2 (by omega), e 3 (by omega), e 4 (by omega), e 5 (by omega), e 6 (by omega), e 7 (by omega)]

/-- Behind q questions. -/
def RInv (P : List Int) (q : Nat) (rest : List Int) (asked : Nat → Int) : Prop := (q = 0 ∧ rest = [] ∧ ∀ j, asked j = 0) ∨ (1 ≤ q ∧ RoundInv P q rest asked)
theorem RInv.mk_next {P : List Int} {q : Nat} {rest : List Int} {asked : Nat → Int} (h : RoundInv P (q + 1) rest asked) : RInv P (q + 1) rest asked := .inr ⟨by omega, h⟩
theorem RInv.len {P rest : List Int} {q : Nat} {asked : Nat → Int} (h : RInv P q rest asked) (h8 : P.length ≤ 8) : rest.length ≤ 8 := by
  rcases h with ⟨_, rfl, _⟩ | ⟨_, h⟩
  · simp
  · rw [h.len]; omega
theorem RInv.next {P rest : List Int} {q : Nat} {asked : Nat → Int} {draw x : Int} {r : List Int} (h : RInv P q rest asked) (hP : P ≠ []) (h8 : P.length ≤ 8) (hn : P.Nodup) (hx : leftNow rest P draw = x :: r) :
    x ∈ P ∧ RoundInv P (q + 1) r (fun j => if (j : Int) = x then asked j + 1 else asked j) := by
  rcases h with ⟨rfl, rfl, ha⟩ | ⟨hq, h⟩
  · obtain ⟨h1, h2⟩ := RoundInv.first (by omega) hn hx
    refine ⟨h1, ?_⟩
    have : (fun j : Nat => if (j : Int) = x then asked j + 1 else asked j) = fun j : Nat => if (j : Int) = x then 1 else 0 := by
      funext j
      rw [ha j]
      rfl
    rw [this]
    exact h2
  · exact h.next hq hP (by omega) hn hx
/-- How often each was asked, against how many rounds there were. -/
theorem RoundInv.told {P rest : List Int} {q : Nat} {asked : Nat → Int} (h : RoundInv P (q + 1) rest asked) {j : Nat} (hj : (j : Int) ∈ P) : asked j = ((q / P.length : Nat) : Int) ∨ asked j = ((q / P.length : Nat) : Int) + 1 := by
  have := h.count j hj
  rw [Nat.add_sub_cancel] at this
  rw [this]
  split
  · exact .inl (by omega)
  · exact .inr rfl
theorem RoundInv.left {P rest : List Int} {q : Nat} {asked : Nat → Int} (h : RoundInv P (q + 1) rest asked) (hP : P ≠ []) : (rest.length : Int) = (P.length : Int) - 1 - ((q % P.length : Nat) : Int) := by
  have h1 := h.len
  rw [Nat.add_sub_cancel] at h1
  have hl := List.length_pos_iff.2 hP
  have := Nat.mod_lt q hl
  omega
theorem RoundInv.few {P rest : List Int} {q : Nat} {asked : Nat → Int} (h : RoundInv P (q + 1) rest asked) {j : Nat} : 0 ≤ asked j ∧ asked j ≤ (q : Int) + 1 := by
  by_cases hj : (j : Int) ∈ P
  · have := Nat.div_le_self q P.length
    have h2 := h.told hj
    obtain ⟨D, hD⟩ : ∃ D, q / P.length = D := ⟨_, rfl⟩
    rw [hD] at this h2
    rcases h2 with h1 | h1 <;> omega
  · rw [h.none j hj]; omega
end Go.Proofs.Ytfhfhneclplklaa
