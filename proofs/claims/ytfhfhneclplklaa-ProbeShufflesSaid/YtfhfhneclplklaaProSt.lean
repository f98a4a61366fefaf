/- The landed order, as a law sees it; awake; the order that there isn't. -/
import Derived.Test.YtfhfhneclplklaaProAsk
import Derived.Test.YtfhfhneclplklaaProSome
namespace Go.Proofs.Ytfhfhneclplklaa
open Go Go.RowKit

/-- What a law knows of an order that it has made itself since the world w. -/
structure PSt (w : World) (m : Nat) (me : Int) (rest : List Int) (W : World) : Prop where
  ex : ∃ H, ProO m me rest W H ∧ ∀ k, H k → w.heap.size ≤ k
  below : Below w.heap.size w W
theorem PSt.later {w W : World} {m : Nat} {self : Int} {rest : List Int} (h : PSt w m self rest W) (x : Later W) : PSt w m self rest x.w := by
  obtain ⟨⟨H, ho, hH⟩, hb⟩ := h
  exact ⟨⟨H, (proO_owns m self rest).kept W x.w H ho x.below.size fun k hk => x.below.block k ((proO_owns m self rest).lt W H ho k hk), hH⟩, below_later hb hb.size x⟩
def NewS (w : World) (self : Int) (e : Ending) (W' : World) : Prop := ∃ m, e = .returned (.pointer (some ⟨m, 0, none⟩)) ∧ PSt w m self [] W'
theorem newS_any {w W : World} (hb : Below w.heap.size w W) (self : Int) : Calls Try.prog 9 #[.int .i64 self] W (NewS w self) :=
  (newP_any self W).mono fun _ _ ⟨he, ho, hb'⟩ => ⟨_, he, ⟨_, ho, fun k hk => by subst hk; exact hb.size⟩, hb.trans (hb'.mono hb.size)⟩
def NextS (w : World) (m : Nat) (self : Int) (rest peers : List Int) (draw : Int) (e : Ending) (W' : World) : Prop := e = .returned (.int .i64 (nextOf self rest peers draw).1) ∧ PSt w m self (nextOf self rest peers draw).2 W'
theorem nextS_any {w W : World} {m : Nat} {self : Int} {rest : List Int} (h : PSt w m self rest W) (peers : List Int) (draw : Int) (v : Value) (hrest : rest.length ≤ 100) (hs : IntsAt W v peers) (hl : peers.length * 8 ≤ 140737488351232) (h0 : 0 ≤ draw) (h1 : draw < 18446744073709551616) :
    Calls Try.prog 15 #[.pointer (some ⟨m, 0, none⟩), v, .int .u64 draw] W (NextS w m self rest peers draw) := by
  obtain ⟨⟨H, ho, hH⟩, hb⟩ := h
  refine (nextP_any m self rest peers draw v W H ho hrest hs hl h0 h1).mono fun e W' ⟨he, H', ho', hf, hH'⟩ => ⟨he, ⟨H', ho', fun k hk => ?_⟩, hb.trans (hf.below hb.size hH)⟩
  rcases hH' k hk with h2 | h2
  · exact hH k h2
  · exact Nat.le_trans hb.size h2
def RestS (w W : World) (m : Nat) (self : Int) (rest : List Int) (e : Ending) (W' : World) : Prop := ∃ p cap, e = .returned (.slice p rest.length cap) ∧ IntsAt W' (.slice p rest.length cap) rest ∧ PSt w m self rest W' ∧ Below W.heap.size W W'
theorem restS_any {w W : World} {m : Nat} {self : Int} {rest : List Int} (h : PSt w m self rest W) (hrest : rest.length ≤ 1000) : Calls Try.prog 17 #[.pointer (some ⟨m, 0, none⟩)] W (RestS w W m self rest) := by
  have h' := h
  obtain ⟨⟨H, ho, hH⟩, hb⟩ := h
  refine (restP_any m self rest W H ho hrest).mono ?_
  rintro e W' ⟨u, rfl, hm⟩
  obtain ⟨p, cap, rfl⟩ := ownsRow_form hm.1
  exact ⟨p, cap, rfl, hm.list, h'.later ⟨W', hm.2⟩, hm.2⟩

theorem nextOf_len (self : Int) (rest peers : List Int) (draw : Int) (h : rest.length ≤ 64) : (nextOf self rest peers draw).2.length ≤ 64 := by
  unfold nextOf
  split
  · exact h
  · show (leftNow rest (peersOf peers self) draw).tail.length ≤ 64
    rw [List.length_tail]
    have : (leftNow rest (peersOf peers self) draw).length ≤ 64 := by
      unfold leftNow
      split
      · rw [shuf_len]; omega
      · rename_i x r e
        rw [← e]
        exact Nat.le_trans (List.length_filter_le _ _) h
    omega

theorem intsAt_new (W : World) (l : List Int) (cs : Array Value) (hc : cs = (cellsI l).toArray) (n : Nat) (hn : n = l.length) : IntsAt (W.alloc (.cells cs 3)) (.slice (some ⟨W.heap.size, 0, none⟩) n n) l := by
  subst hn hc
  refine .inr ⟨_, 0, _, rfl, by simp, fun k x hk => ?_⟩
  unfold World.cell?
  rw [heap_alloc_new]
  simp [cellsI, hk]

set_option maxHeartbeats 1000000 in
set_option maxRecDepth 100000 in
theorem awake_any (w : World) : Gives Try.prog 18 #[] w (.bool true) := by
  unfold Gives
  have HN := Lib.hid (newS_any (ext_refl w) 0)
  have e1 : nextOf 0 [] [2, 0, 2, 9] 5 = (2, []) := by decide
  have e2 : nextOf 0 [] [2] 6 = (2, []) := by decide
  have e3 : nextOf 0 [] [] 1 = (-1, []) := by decide
  have E1 := Lib.hid e1
  have E2 := Lib.hid e2
  have E3 := Lib.hid e3
  clear e1 e2 e3
  go_enter Try.func18, Try.ntmps18
  go_wp2_with fail
  refine HN.out.mono ?_
  rintro e w1 ⟨m, rfl, hs⟩
  have hs1 := hs.later ⟨w1.alloc (.cells #[.int .i64 2, .int .i64 0, .int .i64 2, .int .i64 9] 3), ext_alloc (ext_refl w1) _⟩
  have h1 := nextS_any hs1 [2, 0, 2, 9] 5 _ (by simp) (intsAt_new w1 [2, 0, 2, 9] _ rfl 4 rfl) (by decide) (by decide) (by decide)
  unfold NextS at h1
  rw [E1.out] at h1
  have H1 := Lib.hid h1
  clear hs hs1 h1 HN
  go_wp2_with fail
  refine H1.out.mono ?_
  rintro e w2 ⟨rfl, hs⟩
  have hs1 := hs.later ⟨w2.alloc (.cells #[.int .i64 2] 3), ext_alloc (ext_refl w2) _⟩
  have h1 := nextS_any hs1 [2] 6 _ (by simp) (intsAt_new w2 [2] _ rfl 1 rfl) (by decide) (by decide) (by decide)
  unfold NextS at h1
  rw [E2.out] at h1
  have H2 := Lib.hid h1
  clear hs hs1 h1 H1
  go_wp2_with fail
  refine H2.out.mono ?_
  rintro e w3 ⟨rfl, hs⟩
  have h1 := nextS_any hs [] 1 (.slice none 0 0) (by simp) (.inl ⟨rfl, _, _, rfl⟩) (by decide) (by decide) (by decide)
  unfold NextS at h1
  rw [E3.out] at h1
  have H3 := Lib.hid h1
  clear hs h1 H2
  go_wp2_with fail
  refine H3.out.mono ?_
  rintro e w4 ⟨rfl, hs⟩
  have HB := Lib.hid hs.below
  clear hs H3
  go_wp2_with fail
  go_ret
  exact ⟨rfl, Later.ex HB.out⟩
end Go.Proofs.Ytfhfhneclplklaa
