/- Arguments that are slices of ints, draws, rows of calls, opened; a law's last step where nothing that was there has turned. -/
import Derived.Test.YtfhfhneclplklaaRefNext
import Derived.ProofKit
import Derived.OpenShut
import Derived.ChangeSame
import Derived.Carry
import Derived.Deep.Slices
import Derived.Deep.DeepHandedRow
import Derived.MakeChecks
import Derived.SizedLaws
import Derived.Lay
namespace Go.Proofs.Ytfhfhneclplklaa
open Go Go.ChangeShapes Go.WideShapes Go.ChangeAt Go.RowKit Go.Joins

theorem own : ownKnob Try.prog.godebug = none := by kernel_rfl
theorem bytesInt : Try.prog.bytesOf 3 = 8 := by kernel_rfl
theorem cellsInt : Try.prog.cellsOf 3 = 1 := by kernel_rfl
theorem laidOut : laidOutB Try.prog = true := by kernel_rfl

theorem addr_spot (a : Addr) (w : World) (v : Value) (h : w.cell? a = some v) : a = ⟨a.block, a.off, none⟩ := by
  obtain ⟨b, o, sp⟩ := a
  cases sp with
  | none => rfl
  | some s =>
    exfalso
    unfold World.cell? at h
    revert h
    dsimp only
    split <;> simp
theorem addr_plus (b o i : Nat) : (⟨b, o, none⟩ : Addr).add i = ⟨b, o + i, none⟩ := by unfold Addr.add; split <;> simp_all

section
variable {H : Type} {enc : TypeId × Value → H} {w : World} {base : Nat} {spare : Nat → Bool} {held : Bool}
theorem read_int {fuel : Nat} {cs : List Value} {x : DataW H × List MemPlace} (h : DataW.trod enc Try.prog w base spare held fuel 3 cs = some x) : ∃ n : Int, cs = [.int .i64 n] := by
  obtain ⟨n0, e0, _⟩ := DataW.trod_int Try.underlying3 h
  exact ⟨n0, e0⟩

theorem open_ints' {fuel : Nat} {cs : List Value} {x : DataW H × List MemPlace} (h : DataW.trod enc Try.prog w base spare held fuel 26 cs = some x) :
    ∃ (v : Value) (l : List Int), cs = [v] ∧ SrcI w v l ∧ (l = [] ∨ ∃ es sp, x.1 = .slice es sp ∧ es.length = l.length) := by
  rcases Go.Deep.open_slice Try.underlying26 h with ⟨rfl, _⟩ | ⟨a, len, cap, m, n, D, Pl, rfl, _, hlc, hcm, hm, hx, hi⟩
  · exact ⟨_, [], rfl, ⟨.inl ⟨rfl, _, _, rfl⟩, none, 0, rfl, by simp, fun _ => rfl⟩, .inl rfl⟩
  · rw [cellsInt] at hi
    have hlm : len ≤ m := by rw [hm]; split <;> omega
    have hok : ∀ l : List Int, l.length = len → SliceOkI (.slice (some a) len cap) l := fun l hl => ⟨some a, cap, by rw [hl], by omega, fun h => by cases h⟩
    have each : ∀ i, i < len → ∃ n : Int, w.cell? (a.add (i * 1)) = some (.int .i64 n) := by
      intro i hil
      obtain ⟨cs', hc, ht⟩ := hi i (by omega)
      obtain ⟨c, rfl⟩ := read_int ht
      obtain ⟨_, _, hat⟩ := World.cells?_some hc
      have z : (a.add (i * 1)).add 0 = a.add (i * 1) := by unfold Addr.add; split <;> simp_all
      exact ⟨c, by have := hat 0 (by omega); rw [z] at this; exact this⟩
    by_cases h0 : len = 0
    · subst h0
      exact ⟨_, [], rfl, ⟨.inl ⟨rfl, _, _, rfl⟩, hok [] rfl⟩, .inl rfl⟩
    · obtain ⟨f, hf⟩ : ∃ f : Nat → Int, ∀ i, i < len → w.cell? (a.add (i * 1)) = some (.int .i64 (f i)) :=
        ⟨fun i => if h : i < len then Classical.choose (each i h) else 0, fun i h => by
          dsimp only
          rw [dif_pos h]
          exact Classical.choose_spec (each i h)⟩
      have hz := hf 0 (by omega)
      rw [show a.add (0 * 1) = a by unfold Addr.add; simp] at hz
      have ha := addr_spot a w _ hz
      obtain ⟨b, o, hbo⟩ : ∃ b o, a = ⟨b, o, none⟩ := ⟨_, _, ha⟩
      subst hbo
      have hlt : b < w.heap.size := block_lt_of_cell hz
      refine ⟨_, (List.range len).map f, rfl, ⟨.inr ⟨b, o, cap, by simp, hlt, fun k c hk => ?_⟩, hok _ (by simp)⟩, .inr ⟨_, _, by rw [hx], by simp⟩⟩
      have hkl : k < len := by
        have := (List.getElem?_eq_some_iff.1 hk).1
        simpa using this
      have e : c = f k := by
        simp [List.getElem?_range hkl] at hk
        exact hk.symm
      rw [e]
      have := hf k hkl
      simpa only [addr_plus, Nat.mul_one] using this
theorem open_intlist {r : Reach} {b0 : Nat} {v : Value} {d : DataW H} {p : List MemPlace} (hv : Value.okWide Try.prog w r b0 26 v) (h : DataW.Trod enc Try.prog w base spare held 26 v d p) :
    ∃ l : List Int, SrcI w v l ∧ (l = [] ∨ ∃ es sp, d = .slice es sp ∧ es.length = l.length) := by
  obtain ⟨a, len, cap, rfl⟩ := okWide_slice Try.underlying26 hv
  obtain ⟨fuel, hf⟩ := h
  obtain ⟨v', l, hcs, hl, hm⟩ := open_ints' hf
  obtain rfl : v' = .slice a len cap := by
    simp [Value.cells] at hcs
    exact hcs.symm
  exact ⟨l, hl, hm⟩
theorem reach_ints {ts : List TypeId} {ds : List (DataW H)} {j : Nat} {d : DataW H} {l : List Int} (hsz : (DataW.weightsEach Try.prog ts ds).all (· ≤ reachBytes) = true) (ht : ts[j]? = some 26) (hd : ds[j]? = some d) (h : l = [] ∨ ∃ es sp, d = .slice es sp ∧ es.length = l.length) : l.length * 8 ≤ 140737488351232 := by
  rcases h with rfl | ⟨es, sp, rfl, hl⟩
  · simp
  · have := List.all_eq_true.1 hsz _ (DataW.weights_mem_each ht hd ((es.length + sp.length) * Try.prog.bytesOf 3) (by simp [DataW.weights, Try.underlying26]))
    rw [bytesInt] at this
    have h2 : (es.length + sp.length) * 8 ≤ 140737488351232 := of_decide_eq_true this
    rw [← hl]
    omega
theorem u64_range {n : Int} (h : (Lit.int .u64 n).wf = true) : 0 ≤ n ∧ n < 18446744073709551616 := by
  simp [Lit.wf, IntKind.min, IntKind.max, IntKind.signed, IntKind.bits] at h
  omega

/-- A call: whom there are, and a draw. -/
structure Call4 where
  l : List Int
  d : Int
theorem cellsCall : Try.prog.cellsOf 31 = 2 := by kernel_rfl
theorem cellsU64 : Try.prog.cellsOf 29 = 1 := by kernel_rfl
theorem cellsSl : Try.prog.cellsOf 26 = 1 := by kernel_rfl
/-- Its two cells. -/
def Call4.At (W : World) (c : Call4) (u0 u1 : Value) : Prop := SrcI W u0 c.l ∧ u1 = .int .u64 c.d ∧ 0 ≤ c.d ∧ c.d < 18446744073709551616
theorem read_call {fuel : Nat} {cs : List Value} {x : DataW H × List MemPlace} (h : DataW.trod enc Try.prog w base spare held fuel 31 cs = some x) : ∃ (c : Call4) (u0 u1 : Value), cs = [u0, u1] ∧ c.At w u0 u1 := by
  obtain ⟨xs, n, _, _, hlen, hxs, hf⟩ := DataW.trod_struct Try.underlying31 h
  have h0 : DataW.trod enc Try.prog w base spare held n 26 ((cs.drop 0).take (Try.prog.cellsOf 26)) = xs[0]? := hf 0 _ rfl
  have h1 : DataW.trod enc Try.prog w base spare held n 29 ((cs.drop 1).take (Try.prog.cellsOf 29)) = xs[1]? := hf 1 _ rfl
  rw [cellsSl] at h0
  rw [cellsU64] at h1
  simp only [List.size_toArray, List.length_cons, List.length_nil, Nat.zero_add, Nat.reduceAdd] at hxs
  match cs, hlen.trans cellsCall with
  | [a, b], _ =>
    match xs, hxs with
    | [y0, y1], _ =>
      obtain ⟨v, l, e0, hl, _⟩ := open_ints' (h0.trans rfl)
      obtain ⟨n1, e1, hw⟩ := DataW.trod_int Try.underlying29 (h1.trans rfl)
      simp at e0 e1
      subst e0 e1
      exact ⟨⟨l, n1⟩, _, _, rfl, hl, rfl, u64_range hw.2⟩
/-- A slice of calls: its list. -/
def Calls4At (W : World) (v : Value) (l : List Call4) : Prop :=
  (l = [] ∧ ∃ p cap, v = .slice p 0 cap) ∨ ∃ b o cap, v = .slice (some ⟨b, o, none⟩) l.length cap ∧ b < W.heap.size ∧ ∀ k c, l[k]? = some c → ∃ u0 u1, W.cell? ⟨b, o + k * 2, none⟩ = some u0 ∧ W.cell? ⟨b, o + k * 2 + 1, none⟩ = some u1 ∧ c.At W u0 u1
theorem Calls4At.below {W W' : World} {v : Value} {l : List Call4} (h : Calls4At W v l) (hb : Below W.heap.size W W') : Calls4At W' v l := by
  rcases h with h | ⟨b, o, cap, hv, hlt, hc⟩
  · exact .inl h
  · exact .inr ⟨b, o, cap, hv, Nat.lt_of_lt_of_le hlt hb.size, fun k c hk => by
      obtain ⟨u0, u1, h0, h1, h2⟩ := hc k c hk
      exact ⟨u0, u1, (hb.cell (p := ⟨b, _, none⟩) hlt).trans h0, (hb.cell (p := ⟨b, _, none⟩) hlt).trans h1, h2.1.below hb, h2.2⟩⟩
theorem open_calls4 {fuel : Nat} {cs : List Value} {x : DataW H × List MemPlace} (h : DataW.trod enc Try.prog w base spare held fuel 22 cs = some x) :
    ∃ (v : Value) (l : List Call4), cs = [v] ∧ Calls4At w v l ∧ (l = [] ∨ ∃ es sp, x.1 = .slice es sp ∧ es.length = l.length) := by
  rcases Go.Deep.open_slice Try.underlying22 h with ⟨rfl, _⟩ | ⟨a, len, cap, m, n, D, Pl, rfl, _, hlc, hcm, hm, hx, hi⟩
  · exact ⟨_, [], rfl, .inl ⟨rfl, _, _, rfl⟩, .inl rfl⟩
  · rw [cellsCall] at hi
    have hlm : len ≤ m := by rw [hm]; split <;> omega
    have each : ∀ i, i < len → ∃ c : Call4, ∃ u0 u1, w.cell? (a.add (i * 2)) = some u0 ∧ w.cell? ((a.add (i * 2)).add 1) = some u1 ∧ c.At w u0 u1 := by
      intro i hil
      obtain ⟨cs', hc, ht⟩ := hi i (by omega)
      obtain ⟨c, u0, u1, rfl, hat'⟩ := read_call ht
      obtain ⟨_, _, hat⟩ := World.cells?_some hc
      have z : (a.add (i * 2)).add 0 = a.add (i * 2) := by unfold Addr.add; split <;> simp_all
      exact ⟨c, u0, u1, by have := hat 0 (by omega); rw [z] at this; exact this, hat 1 (by omega), hat'⟩
    by_cases h0 : len = 0
    · subst h0
      exact ⟨_, [], rfl, .inl ⟨rfl, _, _, rfl⟩, .inl rfl⟩
    · obtain ⟨f, hf⟩ : ∃ f : Nat → Call4, ∀ i, i < len → ∃ u0 u1, w.cell? (a.add (i * 2)) = some u0 ∧ w.cell? ((a.add (i * 2)).add 1) = some u1 ∧ (f i).At w u0 u1 :=
        ⟨fun i => if h : i < len then Classical.choose (each i h) else ⟨[], 0⟩, fun i h => by
          dsimp only
          rw [dif_pos h]
          exact Classical.choose_spec (each i h)⟩
      obtain ⟨u0, _, hz, _, _⟩ := hf 0 (by omega)
      rw [show a.add (0 * 2) = a by unfold Addr.add; simp] at hz
      have ha := addr_spot a w _ hz
      obtain ⟨b, o, hbo⟩ : ∃ b o, a = ⟨b, o, none⟩ := ⟨_, _, ha⟩
      subst hbo
      have hlt : b < w.heap.size := block_lt_of_cell hz
      refine ⟨_, (List.range len).map f, rfl, .inr ⟨b, o, cap, by simp, hlt, fun k c hk => ?_⟩, .inr ⟨_, _, by rw [hx], by simp⟩⟩
      have hkl : k < len := by
        have := (List.getElem?_eq_some_iff.1 hk).1
        simpa using this
      have e : c = f k := by
        simp [List.getElem?_range hkl] at hk
        exact hk.symm
      rw [e]
      have := hf k hkl
      simpa only [addr_plus] using this
theorem open_row4 {r : Reach} {b0 : Nat} {v : Value} {d : DataW H} {p : List MemPlace} (hv : Value.okWide Try.prog w r b0 22 v) (h : DataW.Trod enc Try.prog w base spare held 22 v d p) :
    ∃ l : List Call4, Calls4At w v l ∧ (l = [] ∨ ∃ es sp, d = .slice es sp ∧ es.length = l.length) := by
  obtain ⟨a, len, cap, rfl⟩ := okWide_slice Try.underlying22 hv
  obtain ⟨fuel, hf⟩ := h
  obtain ⟨v', l, hcs, hl, hm⟩ := open_calls4 hf
  obtain rfl : v' = .slice a len cap := by
    simp [Value.cells] at hcs
    exact hcs.symm
  exact ⟨l, hl, hm⟩
theorem open_call4 {r : Reach} {b0 : Nat} {v : Value} {d : DataW H} {p : List MemPlace} (hv : Value.okWide Try.prog w r b0 31 v) (h : DataW.Trod enc Try.prog w base spare held 31 v d p) :
    ∃ (c : Call4) (u0 u1 : Value), v = .agg #[u0, u1] ∧ c.At w u0 u1 := by
  obtain ⟨cs, rfl, _⟩ := okWide_struct Try.underlying31 hv
  obtain ⟨fuel, hf⟩ := h
  obtain ⟨c, u0, u1, hc, hat⟩ := read_call hf
  refine ⟨c, u0, u1, ?_, hat⟩
  congr 1
  apply Array.toList_inj.1
  simpa [Value.cells] using hc

/-- A slice of draws. -/
def DrawsAt (W : World) (v : Value) (l : List Int) : Prop :=
  (l = [] ∧ ∃ p cap, v = .slice p 0 cap) ∨ ∃ b o cap, v = .slice (some ⟨b, o, none⟩) l.length cap ∧ b < W.heap.size ∧ ∀ k x, l[k]? = some x → W.cell? ⟨b, o + k, none⟩ = some (.int .u64 x) ∧ 0 ≤ x ∧ x < 18446744073709551616
theorem open_draws {fuel : Nat} {cs : List Value} {x : DataW H × List MemPlace} (h : DataW.trod enc Try.prog w base spare held fuel 40 cs = some x) :
    ∃ (v : Value) (l : List Int), cs = [v] ∧ DrawsAt w v l := by
  rcases Go.Deep.open_slice Try.underlying40 h with ⟨rfl, _⟩ | ⟨a, len, cap, m, n, D, Pl, rfl, _, hlc, hcm, hm, hx, hi⟩
  · exact ⟨_, [], rfl, .inl ⟨rfl, _, _, rfl⟩⟩
  · rw [cellsU64] at hi
    have hlm : len ≤ m := by rw [hm]; split <;> omega
    have each : ∀ i, i < len → ∃ n : Int, w.cell? (a.add (i * 1)) = some (.int .u64 n) ∧ 0 ≤ n ∧ n < 18446744073709551616 := by
      intro i hil
      obtain ⟨cs', hc, ht⟩ := hi i (by omega)
      obtain ⟨c, rfl, hw⟩ := DataW.trod_int Try.underlying29 ht
      obtain ⟨_, _, hat⟩ := World.cells?_some hc
      have z : (a.add (i * 1)).add 0 = a.add (i * 1) := by unfold Addr.add; split <;> simp_all
      exact ⟨c, by have := hat 0 (by omega); rw [z] at this; exact this, u64_range hw.2⟩
    by_cases h0 : len = 0
    · subst h0
      exact ⟨_, [], rfl, .inl ⟨rfl, _, _, rfl⟩⟩
    · obtain ⟨f, hf⟩ : ∃ f : Nat → Int, ∀ i, i < len → w.cell? (a.add (i * 1)) = some (.int .u64 (f i)) ∧ 0 ≤ f i ∧ f i < 18446744073709551616 :=
        ⟨fun i => if h : i < len then Classical.choose (each i h) else 0, fun i h => by
          dsimp only
          rw [dif_pos h]
          exact Classical.choose_spec (each i h)⟩
      have hz := (hf 0 (by omega)).1
      rw [show a.add (0 * 1) = a by unfold Addr.add; simp] at hz
      have ha := addr_spot a w _ hz
      obtain ⟨b, o, hbo⟩ : ∃ b o, a = ⟨b, o, none⟩ := ⟨_, _, ha⟩
      subst hbo
      have hlt : b < w.heap.size := block_lt_of_cell hz
      refine ⟨_, (List.range len).map f, rfl, .inr ⟨b, o, cap, by simp, hlt, fun k c hk => ?_⟩⟩
      have hkl : k < len := by
        have := (List.getElem?_eq_some_iff.1 hk).1
        simpa using this
      have e : c = f k := by
        simp [List.getElem?_range hkl] at hk
        exact hk.symm
      rw [e]
      have := hf k hkl
      simpa only [addr_plus, Nat.mul_one] using this
theorem open_drawlist {r : Reach} {b0 : Nat} {v : Value} {d : DataW H} {p : List MemPlace} (hv : Value.okWide Try.prog w r b0 40 v) (h : DataW.Trod enc Try.prog w base spare held 40 v d p) :
    ∃ l : List Int, DrawsAt w v l := by
  obtain ⟨a, len, cap, rfl⟩ := okWide_slice Try.underlying40 hv
  obtain ⟨fuel, hf⟩ := h
  obtain ⟨v', l, hcs, hl⟩ := open_draws hf
  obtain rfl : v' = .slice a len cap := by
    simp [Value.cells] at hcs
    exact hcs.symm
  exact ⟨l, hl⟩
end
/-- A law's last step: what it answers is shut, and nothing that was there has turned. -/
theorem post_law {H : Type} {enc : TypeId × Value → H} {P : Program} {f : Func} {s : ChangeSpec} {W W' : World} {args : Array Value} {v : Value} {ds gs : List (DataW H)} {before pa pv : List MemPlace}
    (hW : DataW.Whole enc P f.params.toList s.vars false W args.toList ds gs before) (hb : Below W.heap.size W W')
    (hres : DataW.TrodAll enc P W' W.heap.size (fun _ => false) false f.resultTypes.toList (v.resultList f.resultTypes.size) (s.fn H (ds ++ gs)).results [])
    (hargs : DataW.TrodAll enc P W' 0 (fun b => decide (b < W.heap.size)) true f.params.toList args.toList (s.fn H (ds ++ gs)).args pa)
    (hvars : DataW.TrodVars enc P W' (fun b => decide (b < W.heap.size)) s.vars (s.fn H (ds ++ gs)).vars pv) (hp : before = pa ++ pv) : s.post enc P f false true false false W args v W' :=
  ⟨ds, gs, before, [], pa, pv, hW, hres, hargs, hvars, World.keptBut_mono (fun p h => ⟨h, Or.inr (by rw [hp] at h; simpa using h)⟩) (hb.frame (· ∈ before)), fun h => by cases h⟩

/-- What was read of the arguments reads as it did where nothing that was there has turned. -/
theorem below_trodAll {H : Type} {enc : TypeId × Value → H} {P : Program} (hl : laidOutB P = true) {W W' : World} (hb : Below W.heap.size W W') :
    ∀ {ts : List TypeId} {vs : List Value} {ds : List (DataW H)} {ps : List MemPlace}, (ts.all fun t => P.readableRec t && decide (t < P.types.size)) = true → DataW.TrodAll enc P W 0 (fun _ => true) true ts vs ds ps → (∀ x ∈ ps, x.block < W.heap.size) →
      DataW.TrodAll enc P W' 0 (fun b => decide (b < W.heap.size)) true ts vs ds ps
  | [], _, _, _, _, h, _ => by
    obtain ⟨rfl, rfl, rfl⟩ := trodAll_nil h
    exact trodAll_mk0
  | t :: ts, _, _, _, hr, h, hlt => by
    obtain ⟨v, vs1, d, ds1, a, b, rfl, rfl, rfl, h1, h2⟩ := trodAll_cons h
    simp only [List.all_cons, Bool.and_eq_true, decide_eq_true_eq] at hr
    exact trodAll_cons_mk (Below.trod hl hr.1.1 hr.1.2 h1 hb (fun x hx => hlt x (List.mem_append_left _ hx))) (below_trodAll hl hb hr.2 h2 (fun x hx => hlt x (List.mem_append_right _ hx)))

end Go.Proofs.Ytfhfhneclplklaa
