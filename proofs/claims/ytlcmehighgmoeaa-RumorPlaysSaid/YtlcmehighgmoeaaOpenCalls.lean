/- Calls as arguments, opened. -/
import Derived.Test.YtlcmehighgmoeaaOpenLists
namespace Go.Proofs.Ytlcmehighgmoeaa
open Go Go.ChangeShapes Go.WideShapes Go.ChangeAt Go.RowKit Go.Joins

theorem cellsCall : Try.prog.cellsOf 30 = 5 := by kernel_rfl
theorem bytesCall : Try.prog.bytesOf 30 = 40 := by kernel_rfl

/-- A call: 0 Take, else Put. -/
structure Call5 where
  d : Int
  n : Int
  c : Cl
def Call5.val (x : Call5) : Value := .agg #[.int .i64 x.d, .int .i64 x.n, .int .i64 x.c.n, .int .i64 x.c.i, .int .i64 x.c.h]
/-- A slice of calls: its list. -/
def CallsAt (W : World) (v : Value) (l : List Call5) : Prop :=
  (l = [] ∧ ∃ p cap, v = .slice p 0 cap) ∨ ∃ b o cap, v = .slice (some ⟨b, o, none⟩) l.length cap ∧ b < W.heap.size ∧ ∀ k x, l[k]? = some x → W.cell? ⟨b, o + k * 5, none⟩ = some (.int .i64 x.d) ∧ W.cell? ⟨b, o + k * 5 + 1, none⟩ = some (.int .i64 x.n) ∧ W.cell? ⟨b, o + k * 5 + 2, none⟩ = some (.int .i64 x.c.n) ∧ W.cell? ⟨b, o + k * 5 + 3, none⟩ = some (.int .i64 x.c.i) ∧ W.cell? ⟨b, o + k * 5 + 4, none⟩ = some (.int .i64 x.c.h)
theorem CallsAt.below {W W' : World} {v : Value} {l : List Call5} (h : CallsAt W v l) (hb : Below W.heap.size W W') : CallsAt W' v l := by
  rcases h with h | ⟨b, o, cap, hv, hlt, hc⟩
  · exact .inl h
  · exact .inr ⟨b, o, cap, hv, Nat.lt_of_lt_of_le hlt hb.size, fun k c hk => by
      obtain ⟨a0, a1, a2, a3, a4⟩ := hc k c hk
      exact ⟨(hb.cell (p := ⟨b, _, none⟩) hlt).trans a0, (hb.cell (p := ⟨b, _, none⟩) hlt).trans a1, (hb.cell (p := ⟨b, _, none⟩) hlt).trans a2, (hb.cell (p := ⟨b, _, none⟩) hlt).trans a3, (hb.cell (p := ⟨b, _, none⟩) hlt).trans a4⟩⟩

section
variable {H : Type} {enc : TypeId × Value → H} {w : World} {base : Nat} {spare : Nat → Bool} {held : Bool}
theorem read_call {fuel : Nat} {cs : List Value} {x : DataW H × List MemPlace} (h : DataW.trod enc Try.prog w base spare held fuel 30 cs = some x) : ∃ c : Call5, cs = [.int .i64 c.d, .int .i64 c.n, .int .i64 c.c.n, .int .i64 c.c.i, .int .i64 c.c.h] := by
  obtain ⟨xs, n, _, _, hlen, hxs, hf⟩ := DataW.trod_struct Try.underlying30 h
  have h0 : DataW.trod enc Try.prog w base spare held n 3 ((cs.drop 0).take (Try.prog.cellsOf 3)) = xs[0]? := hf 0 _ rfl
  have h1 : DataW.trod enc Try.prog w base spare held n 3 ((cs.drop 1).take (Try.prog.cellsOf 3)) = xs[1]? := hf 1 _ rfl
  have h2 : DataW.trod enc Try.prog w base spare held n 28 ((cs.drop 2).take (Try.prog.cellsOf 28)) = xs[2]? := hf 2 _ rfl
  rw [cellsInt] at h0 h1
  rw [cellsClaim] at h2
  simp only [List.size_toArray, List.length_cons, List.length_nil, Nat.zero_add, Nat.reduceAdd] at hxs
  match cs, hlen.trans cellsCall with
  | [a, b, c, d, e], _ =>
    match xs, hxs with
    | [y0, y1, y2], _ =>
      obtain ⟨n0, e0, _⟩ := DataW.trod_int Try.underlying3 (h0.trans rfl)
      obtain ⟨n1, e1, _⟩ := DataW.trod_int Try.underlying3 (h1.trans rfl)
      obtain ⟨k, e2⟩ := read_claim (h2.trans rfl)
      simp at e0 e1 e2
      obtain ⟨rfl, rfl, rfl⟩ := e2
      subst e0 e1
      exact ⟨⟨n0, n1, k⟩, rfl⟩

theorem open_calls {fuel : Nat} {cs : List Value} {x : DataW H × List MemPlace} (h : DataW.trod enc Try.prog w base spare held fuel 22 cs = some x) :
    ∃ (v : Value) (l : List Call5), cs = [v] ∧ CallsAt w v l ∧ (l = [] ∨ ∃ es sp, x.1 = .slice es sp ∧ es.length = l.length) := by
  rcases Go.Deep.open_slice Try.underlying22 h with ⟨rfl, _⟩ | ⟨a, len, cap, m, n, D, Pl, rfl, _, hlc, hcm, hm, hx, hi⟩
  · exact ⟨_, [], rfl, .inl ⟨rfl, _, _, rfl⟩, .inl rfl⟩
  · rw [cellsCall] at hi
    have hlm : len ≤ m := by rw [hm]; split <;> omega
    have each : ∀ i, i < len → ∃ c : Call5, w.cell? (a.add (i * 5)) = some (.int .i64 c.d) ∧ w.cell? ((a.add (i * 5)).add 1) = some (.int .i64 c.n) ∧ w.cell? ((a.add (i * 5)).add 2) = some (.int .i64 c.c.n) ∧ w.cell? ((a.add (i * 5)).add 3) = some (.int .i64 c.c.i) ∧ w.cell? ((a.add (i * 5)).add 4) = some (.int .i64 c.c.h) := by
      intro i hil
      obtain ⟨cs', hc, ht⟩ := hi i (by omega)
      obtain ⟨c, rfl⟩ := read_call ht
      obtain ⟨_, _, hat⟩ := World.cells?_some hc
      have z : (a.add (i * 5)).add 0 = a.add (i * 5) := by unfold Addr.add; split <;> simp_all
      exact ⟨c, by have := hat 0 (by omega); rw [z] at this; exact this, hat 1 (by omega), hat 2 (by omega), hat 3 (by omega), hat 4 (by omega)⟩
    by_cases h0 : len = 0
    · subst h0
      exact ⟨_, [], rfl, .inl ⟨rfl, _, _, rfl⟩, .inl rfl⟩
    · obtain ⟨f, hf⟩ : ∃ f : Nat → Call5, ∀ i, i < len → w.cell? (a.add (i * 5)) = some (.int .i64 (f i).d) ∧ w.cell? ((a.add (i * 5)).add 1) = some (.int .i64 (f i).n) ∧ w.cell? ((a.add (i * 5)).add 2) = some (.int .i64 (f i).c.n) ∧ w.cell? ((a.add (i * 5)).add 3) = some (.int .i64 (f i).c.i) ∧ w.cell? ((a.add (i * 5)).add 4) = some (.int .i64 (f i).c.h) :=
        ⟨fun i => if h : i < len then Classical.choose (each i h) else ⟨0, 0, Cl.zero⟩, fun i h => by
          dsimp only
          rw [dif_pos h]
          exact Classical.choose_spec (each i h)⟩
      have hz := (hf 0 (by omega)).1
      rw [show a.add (0 * 5) = a by unfold Addr.add; simp] at hz
      have ha := addr_spot a w _ hz
      obtain ⟨b, o, hbo⟩ : ∃ b o, a = ⟨b, o, none⟩ := ⟨_, _, ha⟩
      subst hbo
      have hlt : b < w.heap.size := block_lt_of_cell hz
      refine ⟨_, (List.range len).map f, rfl, .inr ⟨b, o, cap, by simp, hlt, fun k c hk => ?_⟩, .inr ⟨_, _, by rw [hx], by simp⟩⟩
      have hkl : k < len := by
        have := (List.getElem?_eq_some_iff.1 hk).1
        simpa using this
      have e : c = f k := by
        simp [List.getElem?_range hkl] at hk
        exact hk.symm
      rw [e]
      have := hf k hkl
      simpa only [addr_plus] using this
theorem open_row {r : Reach} {b0 : Nat} {v : Value} {d : DataW H} {p : List MemPlace} (hv : Value.okWide Try.prog w r b0 22 v) (h : DataW.Trod enc Try.prog w base spare held 22 v d p) :
    ∃ l : List Call5, CallsAt w v l ∧ (l = [] ∨ ∃ es sp, d = .slice es sp ∧ es.length = l.length) := by
  obtain ⟨a, len, cap, rfl⟩ := okWide_slice Try.underlying22 hv
  obtain ⟨fuel, hf⟩ := h
  obtain ⟨v', l, hcs, hl, hm⟩ := open_calls hf
  obtain rfl : v' = .slice a len cap := by
    simp [Value.cells] at hcs
    exact hcs.symm
  exact ⟨l, hl, hm⟩
theorem reach_row {ts : List TypeId} {ds : List (DataW H)} {j : Nat} {d : DataW H} {l : List Call5} (hsz : (DataW.weightsEach Try.prog ts ds).all (· ≤ reachBytes) = true) (ht : ts[j]? = some 22) (hd : ds[j]? = some d) (h : l = [] ∨ ∃ es sp, d = .slice es sp ∧ es.length = l.length) : l.length * 40 ≤ 140737488351232 := by
  rcases h with rfl | ⟨es, sp, rfl, hl⟩
  · simp
  · have := List.all_eq_true.1 hsz _ (DataW.weights_mem_each ht hd ((es.length + sp.length) * Try.prog.bytesOf 30) (by simp [DataW.weights, Try.underlying22]))
    rw [bytesCall] at this
    have h2 : (es.length + sp.length) * 40 ≤ 140737488351232 := of_decide_eq_true this
    rw [← hl]
    omega
theorem open_call {r : Reach} {b0 : Nat} {v : Value} {d : DataW H} {p : List MemPlace} (hv : Value.okWide Try.prog w r b0 30 v) (h : DataW.Trod enc Try.prog w base spare held 30 v d p) :
    ∃ c : Call5, v = c.val := by
  obtain ⟨cs, rfl, _⟩ := okWide_struct Try.underlying30 hv
  obtain ⟨fuel, hf⟩ := h
  obtain ⟨c, hc⟩ := read_call hf
  refine ⟨c, ?_⟩
  unfold Call5.val
  congr 1
  apply Array.toList_inj.1
  simpa [Value.cells] using hc
end
end Go.Proofs.Ytlcmehighgmoeaa
