/- The order, landed and the reference's, as objects side by side. -/
import Derived.Test.YtnkchmafofpimaaSxRes
import Derived.Test.YtnkchmafofpimaaSxInts
import Derived.Test.YtnkchmafofpimaaSxAny
import Derived.Test.YtnkchmafofpimaaMOrd
import Derived.Test.YtnkchmafofpimaaGsM
namespace Go.Proofs.Ytnkchmafofpimaa
open Go Go.RowKit Go.BigFrame

theorem wideE {P : Asn} {m : Nat} {H F' : Nat → Prop} {W W' : World} (hm : ∀ k, k = m → H k) (h1 : P W' F') (h2 : Fr (fun k => k = m) W W') (h3 : ∀ k, F' k → H k ∨ W.heap.size ≤ k) : SEnd P H W W' :=
  ⟨F', h1, ⟨h2.os, h2.tape, h2.output, h2.size, fun k hk hn => h2.block k hk fun e => hn (hm k e)⟩, h3⟩
theorem ints_rowAt {W : World} {v : Value} {l : List Int} (h : RowAt elemI W v l) : IntsAt W v l := by
  obtain ⟨p, cap, rfl, hr⟩ := h.form
  rcases hr with rfl | ⟨b, o, rfl, hlt, hc⟩
  · exact .inl ⟨rfl, _, _, rfl⟩
  · refine .inr ⟨b, o, cap, rfl, hlt, fun k x hk => ?_⟩
    have := hc k x hk 0 _ rfl
    rw [show k * elemI.k = k from Nat.mul_one k, Nat.add_zero] at this
    exact this
theorem nextOf_small {self : Int} {rest peers : List Int} {draw : Int} (hr : rest.length ≤ 64) : (nextOf self rest peers draw).2.length ≤ 64 := by
  unfold nextOf
  split
  · exact hr
  · show (leftNow rest (peersOf peers self) draw).tail.length ≤ 64
    rw [List.length_tail]
    have : (leftNow rest (peersOf peers self) draw).length ≤ 64 := by
      unfold leftNow
      split
      · have h1 := shuf_len (peersOf peers self) draw
        have h2 := peersOf_len peers self
        omega
      · rename_i x r e
        rw [← e]
        exact Nat.le_trans (List.length_filter_le _ _) hr
    omega
def OrdRA (m : Nat) (self : Int) (rest : List Int) : Asn := pureA (rest.length ≤ 64) (RefO m self rest)
theorem ordRA_owns (m : Nat) (self : Int) (rest : List Int) : Owns (OrdRA m self rest) := pureA_owns (refO_owns m self rest)
def OrdBA (m : Nat) (self : Int) (rest : List Int) : Asn := pureA (rest.length ≤ 64) (ProO m self rest)
theorem ordBA_owns (m : Nat) (self : Int) (rest : List Int) : Owns (OrdBA m self rest) := pureA_owns (proO_owns m self rest)
def ordT (b : Nat) (self : Int) (O : List Int) : At := ⟨OrdBA b self O, ordBA_owns b self O⟩
def roT (b : Nat) (self : Int) (O : List Int) : At := ⟨OrdRA b self O, ordRA_owns b self O⟩
/-- A call of an order's Next, the peers read from what lies beside. -/
theorem next_of {f : FuncId} {m : Nat} {self : Int} {O peers : List Int} {draw : Int} {v : Value} {P : List Int → Asn} (hO : ∀ l, Owns (P l)) (R : At) (hR : ∀ W H, R.p W H → RowAt elemI W v peers)
    (h : ∀ W H, P O W H → RowAt elemI W v peers → Calls Try.prog f #[.pointer (some ⟨m, 0, none⟩), v, .int .u64 draw] W fun e W' => e = .returned (.int .i64 (nextOf self O peers draw).1) ∧ SEnd (P (nextOf self O peers draw).2) H W W') :
    Does Try.prog f #[.pointer (some ⟨m, 0, none⟩), v, .int .u64 draw] [R, ⟨P O, hO O⟩] (.int .i64 (nextOf self O peers draw).1) [R, ⟨P (nextOf self O peers draw).2, hO _⟩] := fun W H hs => by
  have hrow : RowAt elemI W v peers := by
    obtain ⟨H1, _, h1, _⟩ := hs
    exact hR W H1 h1
  have hs2 : star (P O) R.p W H := star_comm (star_mono (fun _ h => h) (fun _ h => emp_right h) hs)
  obtain ⟨H1, ho, _, h3⟩ := star_frame R.owns hs2
  refine (h W H1 ho hrow).mono fun e W' ⟨he, hr⟩ => ?_
  exact ⟨he, (h3 _ _ hr).1.mono fun _ h => star_mono (fun _ h => h) (fun _ h => star_comm (starl_emp h)) (star_comm h)⟩
theorem ord_next (m : Nat) (self : Int) (O peers : List Int) (draw : Int) (R : At) (v : Value) (hR : ∀ W H, R.p W H → RowAt elemI W v peers) (hl : peers.length ≤ 1000) (h0 : 0 ≤ draw) (h1 : draw < 18446744073709551616) : Does Try.prog 27 #[.pointer (some ⟨m, 0, none⟩), v, .int .u64 draw] [R, ordT m self O] (.int .i64 (nextOf self O peers draw).1) [R, ordT m self (nextOf self O peers draw).2] :=
  next_of (P := OrdBA m self) (ordBA_owns m self) R hR fun W H h hs => (nextP_any m self O peers draw v W H h.2 (by have := h.1; omega) (ints_rowAt hs) (by omega) h0 h1).mono fun e W' ⟨he, F', k1, k2, k3⟩ => ⟨he, F', ⟨nextOf_small h.1, k1⟩, k2, k3⟩
theorem rnext_d (m : Nat) (self : Int) (O peers : List Int) (draw : Int) (R : At) (v : Value) (hR : ∀ W H, R.p W H → RowAt elemI W v peers) (hl : peers.length ≤ 1000) (h0 : 0 ≤ draw) (h1 : draw < 18446744073709551616) : Does Try.prog 29 #[.pointer (some ⟨m, 0, none⟩), v, .int .u64 draw] [R, roT m self O] (.int .i64 (nextOf self O peers draw).1) [R, roT m self (nextOf self O peers draw).2] :=
  next_of (P := OrdRA m self) (ordRA_owns m self) R hR fun W H h hs => by
    have hself : ∀ k, k = m → H k := by
      rintro k rfl
      obtain ⟨_, v, _, _, hH⟩ := h
      exact (hH k).2 (.inl rfl)
    exact (refNext_any m self O peers draw v W H h.2 (by have := h.1; omega) (ints_rowAt hs) (by omega) h0 h1).mono fun e W' ⟨he, F', k1, k2, k3⟩ => ⟨he, wideE hself ⟨nextOf_small h.1, k1⟩ k2 k3⟩
theorem DoesU.of_new {pr : Program} {f : FuncId} {args : Array Value} {A : Nat → At} (h : ∀ w, Calls pr f args w fun e w' => e = .returned (.pointer (some ⟨w.heap.size, 0, none⟩)) ∧ (A w.heap.size).p w' (fun j => j = w.heap.size) ∧ Below w.heap.size w w') : DoesU pr f args [] fun u => [exT fun b => [prT (u = .pointer (some ⟨b, 0, none⟩)), A b]] := fun W H hs => (h W).mono fun e W' ⟨he, ha, hb⟩ => by
  refine ⟨_, he, ?_⟩
  have h0 : Mem [] H W W := mem_refl hs
  have h1 : Mem [A W.heap.size] H W W' := SEnd.fresh emp_owns (A W.heap.size).owns h0 hb ha fun k hk => by omega
  exact Mem.addEx (f := fun b => [prT (Value.pointer (some ⟨W.heap.size, 0, none⟩) = Value.pointer (some ⟨b, 0, none⟩)), A b]) W.heap.size (Mem.addPr rfl h1)
theorem ord_new (self : Int) : DoesU Try.prog 26 #[.int .i64 self] [] fun u => [exT fun b => [prT (u = .pointer (some ⟨b, 0, none⟩)), ordT b self []]] := DoesU.of_new fun w => (newP_any self w).mono fun e w' ⟨he, h1, h2⟩ => ⟨he, ⟨by simp, h1⟩, h2⟩
end Go.Proofs.Ytnkchmafofpimaa
