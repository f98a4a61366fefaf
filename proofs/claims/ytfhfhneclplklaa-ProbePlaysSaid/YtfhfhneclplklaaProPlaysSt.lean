/- What ProbePlays keeps: the landed order and the reference's, side by side. -/
import Derived.Test.YtfhfhneclplklaaProSt
import Derived.Test.YtfhfhneclplklaaOpenInts
import Derived.Test.YtfhfhneclplklaaGreedy
namespace Go.Proofs.Ytfhfhneclplklaa
open Go Go.RowKit

def PlAt (w : World) (m mr : Nat) (me : Int) (rest rest' : List Int) (H H' : Nat → Prop) (W : World) : Prop :=
  ProO m me rest W H ∧ RefO mr me rest' W H' ∧ Apart H H' ∧ (∀ k, H k → w.heap.size ≤ k) ∧ (∀ k, H' k → w.heap.size ≤ k) ∧ Below w.heap.size w W
def PlS (w : World) (m mr : Nat) (me : Int) (rest rest' : List Int) (W : World) : Prop := ∃ H H', PlAt w m mr me rest rest' H H' W
section
variable {w W : World} {m mr : Nat} {me : Int} {rest rest' : List Int} {H H' : Nat → Prop}
theorem PlAt.later (h : PlAt w m mr me rest rest' H H' W) (x : Later W) : PlAt w m mr me rest rest' H H' x.w := by
  obtain ⟨ho, hr, ha, h1, h2, hb⟩ := h
  exact ⟨(proO_owns m me rest).kept W x.w H ho x.below.size fun k hk => x.below.block k ((proO_owns m me rest).lt W H ho k hk), (refO_owns mr me rest').kept W x.w H' hr x.below.size fun k hk => x.below.block k ((refO_owns mr me rest').lt W H' hr k hk), ha, h1, h2, below_later hb hb.size x⟩
theorem PlS.later (h : PlS w m mr me rest rest' W) (x : Later W) : PlS w m mr me rest rest' x.w := by
  obtain ⟨H, H', h⟩ := h
  exact ⟨H, H', h.later x⟩
theorem PlS.below (h : PlS w m mr me rest rest' W) : Below w.heap.size w W := by
  obtain ⟨_, _, _, _, _, _, _, hb⟩ := h
  exact hb
theorem PlAt.lt (h : PlAt w m mr me rest rest' H H' W) : (∀ k, H k → k < W.heap.size) ∧ ∀ k, H' k → k < W.heap.size := by
  obtain ⟨ho, hr, _⟩ := h
  exact ⟨(proO_owns m me rest).lt W H ho, (refO_owns mr me rest').lt W H' hr⟩
/-- Both are new. -/
theorem pls_start {W0 W1 : World} (hb : Below w.heap.size w W0) (hn : NewEnd me W0 (.returned (.pointer (some ⟨W0.heap.size, 0, none⟩))) W1) :
    PlS w W0.heap.size W1.heap.size me [] [] (W1.alloc (.cells #[.int .i64 me, .slice none 0 0] 28)) := by
  obtain ⟨_, ho, hb1⟩ := hn
  have hlt1 := (proO_owns W0.heap.size me []).lt W1 _ ho _ rfl
  refine ⟨fun k => k = W0.heap.size, fun k => k = W1.heap.size, (proO_owns _ me []).kept W1 _ _ ho (by simp) fun k hk => by subst hk; exact (ext_alloc (ext_refl W1) _).block _ hlt1, ⟨.slice none 0 0, heap_alloc_new W1 _, .inl ⟨rfl, _, _, rfl⟩, fun k => by simp⟩, fun k h1 h2 => by omega, fun k hk => by subst hk; exact hb.size, fun k hk => by subst hk; exact Nat.le_trans hb.size hb1.size, ?_⟩
  exact (hb.trans (hb1.mono hb.size)).trans ((ext_alloc (ext_refl W1) _).mono (Nat.le_trans hb.size hb1.size))
/-- Only these may turn. -/
def Others (H H' : Nat → Prop) (W : World) (k : Nat) : Prop := k < W.heap.size ∧ ¬ H k ∧ ¬ H' k
def NextA (w : World) (m mr : Nat) (me : Int) (rest peers : List Int) (draw : Int) (H H' : Nat → Prop) (W : World) (v : Value) (W' : World) : Prop :=
  v = .int .i64 (nextOf me rest peers draw).1 ∧ (∃ H1, PlAt w m mr me (nextOf me rest peers draw).2 rest H1 H' W') ∧ GK (Others H H' W) W W'
theorem nextA_any (h : PlAt w m mr me rest rest H H' W) (peers : List Int) (draw : Int) (v : Value) (hrest : rest.length ≤ 100) (hs : IntsAt W v peers) (hl : peers.length * 8 ≤ 140737488351232) (h0 : 0 ≤ draw) (h1 : draw < 18446744073709551616) :
    Calls Try.prog 15 #[.pointer (some ⟨m, 0, none⟩), v, .int .u64 draw] W fun e W' => ∃ v, e = .returned v ∧ NextA w m mr me rest peers draw H H' W v W' := by
  have hlt := h.lt
  obtain ⟨ho, hr, ha, hH, hH', hb⟩ := h
  refine (nextP_any m me rest peers draw v W H ho hrest hs hl h0 h1).mono fun e W' ⟨he, H1, ho', hf, hg⟩ => ⟨_, he, rfl, ⟨H1, ho', (refO_owns mr me rest).stays hr hf (fun k h1 h2 => ha k h2 h1), fun k h1 h2 => ?_, fun k hk => ?_, hH', hb.trans (hf.below hb.size hH)⟩, GK.of_fr hf fun k hk => ⟨hk.1, hk.2.1⟩⟩
  · rcases hg k h1 with h3 | h3
    · exact ha k h3 h2
    · have := hlt.2 k h2; omega
  · rcases hg k hk with h3 | h3
    · exact hH k h3
    · exact Nat.le_trans hb.size h3
def NextB (w : World) (m mr : Nat) (me : Int) (rest1 rest peers : List Int) (draw : Int) (S : Nat → Prop) (W : World) (v : Value) (W' : World) : Prop :=
  v = .int .i64 (nextOf me rest peers draw).1 ∧ PlS w m mr me rest1 (nextOf me rest peers draw).2 W' ∧ GK S W W'
theorem nextB_any {rest1 : List Int} {S : Nat → Prop} (h : PlAt w m mr me rest1 rest H H' W) (hS : ∀ k, S k → k < W.heap.size ∧ ¬ H' k) (peers : List Int) (draw : Int) (v : Value) (hrest : rest.length ≤ 100) (hs : IntsAt W v peers) (hl : peers.length * 8 ≤ 140737488351232) (h0 : 0 ≤ draw) (h1 : draw < 18446744073709551616) :
    Calls Try.prog 16 #[.pointer (some ⟨mr, 0, none⟩), v, .int .u64 draw] W fun e W' => ∃ v, e = .returned v ∧ NextB w m mr me rest1 rest peers draw S W v W' := by
  have hlt := h.lt
  obtain ⟨ho, hr, ha, hH, hH', hb⟩ := h
  have hmr : H' mr := by obtain ⟨_, _, _, h⟩ := hr; exact (h mr).2 (.inl rfl)
  refine (refNext_any mr me rest peers draw v W H' hr hrest hs hl h0 h1).mono fun e W' ⟨he, H1, hr', hf, hg⟩ => ⟨_, he, rfl, ⟨H, H1, (proO_owns m me rest1).stays ho hf (fun k h1 h2 => by subst h2; exact ha k h1 hmr), hr', fun k h1 h2 => ?_, hH, fun k hk => ?_, hb.trans (hf.below hb.size fun k hk => by subst hk; exact hH' k hmr)⟩, GK.of_fr hf fun k hk => ⟨(hS k hk).1, fun e => (hS k hk).2 (by rw [e]; exact hmr)⟩⟩
  · rcases hg k h2 with h3 | h3
    · exact ha k h1 h3
    · have := hlt.1 k h1; omega
  · rcases hg k hk with h3 | h3
    · exact hH' k h3
    · exact Nat.le_trans hb.size h3
/-- Rest, beside it. -/
theorem restA_any (h : PlS w m mr me rest rest' W) (hl : rest.length ≤ 1000) : Calls Try.prog 17 #[.pointer (some ⟨m, 0, none⟩)] W (CopyEnd rest W) := by
  obtain ⟨H, H', ho, _⟩ := h
  exact restP_any m me rest W H ho hl
theorem PlS.ref (h : PlS w m mr me rest rest' W) : ∃ p c, W.cell? ⟨mr, 1, none⟩ = some (.slice p rest'.length c) ∧ IntsAt W (.slice p rest'.length c) rest' ∧ mr < W.heap.size := by
  obtain ⟨H, H', _, ⟨v, hm, hi, _⟩, _⟩ := h
  obtain ⟨p, c, rfl, _⟩ := hi.form
  exact ⟨p, c, by simp [World.cell?, hm], hi, (Array.getElem?_eq_some_iff.1 hm).1⟩
end
/-- A call's row, as a slice. -/
def IEnd (M : List Int) (W : World) (v : Value) (W' : World) : Prop := ∃ p c, v = .slice p M.length c ∧ IntsAt W' (.slice p M.length c) M ∧ Below W.heap.size W W'
theorem iend_of {M : List Int} {W W' : World} {u : Value} (h : MadeI W W' u M) : IEnd M W u W' := by
  obtain ⟨p, c, rfl⟩ := ownsRow_form h.1
  exact ⟨p, c, rfl, h.list, h.2⟩
def BEnd (W : World) (v : Value) (W' : World) : Prop := v = .bool true ∧ Below W.heap.size W W'
theorem bend_of {f : FuncId} {args : Array Value} {W : World} (h : Gives Try.prog f args W (.bool true)) : Calls Try.prog f args W fun e W' => ∃ v, e = .returned v ∧ BEnd W v W' :=
  Calls.mono h fun _ _ ⟨he, x, hx⟩ => ⟨_, he, rfl, by rw [hx]; exact x.below⟩
theorem ishuf_of {f : FuncId} {args : Array Value} {l : List Int} {draw : Int} {W : World} (h : Calls Try.prog f args W (ShufEnd l draw W)) : Calls Try.prog f args W fun e W' => ∃ v, e = .returned v ∧ IEnd (shuf l draw) W v W' :=
  Calls.mono h fun _ _ ⟨_u, he, hm⟩ => ⟨_, he, iend_of hm⟩
theorem isome_of {f : FuncId} {args : Array Value} {l : List Int} {k draw : Int} {W : World} (h : Calls Try.prog f args W (SomeEnd l k draw W)) : Calls Try.prog f args W fun e W' => ∃ v, e = .returned v ∧ IEnd (some' l k draw) W v W' :=
  Calls.mono h fun _ _ ⟨_u, he, hm⟩ => ⟨_, he, iend_of hm⟩
theorem icopy_of {f : FuncId} {args : Array Value} {l : List Int} {W : World} (h : Calls Try.prog f args W (CopyEnd l W)) : Calls Try.prog f args W fun e W' => ∃ v, e = .returned v ∧ IEnd l W v W' :=
  Calls.mono h fun _ _ ⟨_u, he, hm⟩ => ⟨_, he, iend_of hm⟩
theorem some_len (l : List Int) (k draw : Int) : (some' l k draw).length ≤ 64 := by
  unfold some'
  rw [List.length_take, shuf_len]
  omega
theorem Calls4At.form {W : World} {v : Value} {l : List Call4} (h : Calls4At W v l) : ∃ p cap, v = .slice p l.length cap ∧ (l = [] ∨ ∃ b o, p = some ⟨b, o, none⟩ ∧ b < W.heap.size ∧ ∀ k c, l[k]? = some c → ∃ u0 u1, W.cell? ⟨b, o + k * 2, none⟩ = some u0 ∧ W.cell? ⟨b, o + k * 2 + 1, none⟩ = some u1 ∧ c.At W u0 u1) := by
  rcases h with ⟨rfl, p, cap, rfl⟩ | ⟨b, o, cap, rfl, hlt, hc⟩
  · exact ⟨_, _, rfl, .inl rfl⟩
  · exact ⟨_, _, rfl, .inr ⟨b, o, rfl, hlt, hc⟩⟩
end Go.Proofs.Ytfhfhneclplklaa
