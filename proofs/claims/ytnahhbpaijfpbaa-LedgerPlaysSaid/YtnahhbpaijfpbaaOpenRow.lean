/- Arguments that are slices of whatever elements, opened; a law's last step where nothing that was there has turned. -/
import Derived.Test.YtnahhbpaijfpbaaProg
import Derived.Test.YtnahhbpaijfpbaaLaid
import Derived.ProofKit
import Derived.OpenShut
import Derived.ChangeSame
import Derived.Carry
import Derived.Deep.Slices
import Derived.Deep.DeepHandedRow
import Derived.MakeChecks
import Derived.SizedLaws
import Derived.Lay
namespace Go.Proofs.Ytnahhbpaijfpbaa
open Go Go.ChangeShapes Go.WideShapes Go.ChangeAt Go.RowKit Go.Joins

theorem own : ownKnob Try.prog.godebug = none := by kernel_rfl
theorem laidOut : laidOutB Try.prog = true := by kernel_rfl
theorem addr_spot (a : Addr) (w : World) (v : Value) (h : w.cell? a = some v) : a = ⟨a.block, a.off, none⟩ := by
  obtain ⟨b, o, sp⟩ := a
  cases sp with
  | none => rfl
  | some s =>
    exfalso
    unfold World.cell? at h
    revert h
    dsimp only
    split <;> simp

/-- An element that can be read of what a caller hands over. -/
structure Readable {α : Type} (E : Elem Try.prog α) : Prop where
  cells : Try.prog.cellsOf E.t = E.k
  bytes : Try.prog.bytesOf E.t = E.bytes
  read : ∀ {H : Type} {enc : TypeId × Value → H} {w : World} {base : Nat} {spare : Nat → Bool} {held : Bool} {fuel : Nat} {cs : List Value} {x : DataW H × List MemPlace}, DataW.trod enc Try.prog w base spare held fuel E.t cs = some x → ∃ y : α, cs = E.enc y

section
variable {α : Type} {E : Elem Try.prog α} {H : Type} {enc : TypeId × Value → H} {w : World} {base : Nat} {spare : Nat → Bool} {held : Bool}
set_option maxRecDepth 100000 in
theorem open_elems [Inhabited α] (hE : Readable E) {fuel : Nat} {cs : List Value} {x : DataW H × List MemPlace} (h : DataW.trod enc Try.prog w base spare held fuel E.sl cs = some x) :
    ∃ (v : Value) (l : List α), cs = [v] ∧ SrcE E w v l ∧ (l = [] ∨ ∃ es sp, x.1 = .slice es sp ∧ es.length = l.length) := by
  rcases Go.Deep.open_slice E.under h with ⟨rfl, _⟩ | ⟨a, len, cap, m, n, D, Pl, rfl, _, hlc, hcm, hm, hx, hi⟩
  · exact ⟨_, [], rfl, ⟨.inl ⟨rfl, _, _, rfl⟩, none, 0, rfl, Nat.le_refl _, fun _ => rfl⟩, .inl rfl⟩
  · rw [hE.cells] at hi
    have hlm : len ≤ m := by rw [hm]; split <;> omega
    have hok : ∀ l : List α, l.length = len → ∃ p c, Value.slice (some a) len cap = .slice p l.length c ∧ l.length ≤ c ∧ (p = none → c = 0) := fun l hl => ⟨some a, cap, by rw [hl], by omega, fun h => by cases h⟩
    have each : ∀ i, i < len → ∃ y : α, ∀ j u, (E.enc y)[j]? = some u → w.cell? ((a.add (i * E.k)).add j) = some u := by
      intro i hil
      obtain ⟨cs', hc, ht⟩ := hi i (by omega)
      obtain ⟨y, rfl⟩ := hE.read ht
      obtain ⟨hlen, _, hat⟩ := World.cells?_some hc
      refine ⟨y, fun j u hu => ?_⟩
      have hj : j < E.k := by have := (List.getElem?_eq_some_iff.1 hu).1; rw [E.len] at this; exact this
      rw [hat j hj]
      exact hu
    by_cases h0 : len = 0
    · subst h0
      exact ⟨_, [], rfl, ⟨.inl ⟨rfl, _, _, rfl⟩, hok [] rfl⟩, .inl rfl⟩
    · obtain ⟨f, hf⟩ : ∃ f : Nat → α, ∀ i, i < len → ∀ j u, (E.enc (f i))[j]? = some u → w.cell? ((a.add (i * E.k)).add j) = some u :=
        ⟨fun i => if h : i < len then Classical.choose (each i h) else default, fun i h => by
          dsimp only
          rw [dif_pos h]
          exact Classical.choose_spec (each i h)⟩
      have hz : ∃ u, w.cell? a = some u := by
        have hp : 0 < (E.enc (f 0)).length := by rw [E.len]; exact E.pos
        have := hf 0 (by omega) 0 _ (List.getElem?_eq_getElem hp)
        rw [show (a.add (0 * E.k)).add 0 = a by unfold Addr.add; simp] at this
        exact ⟨_, this⟩
      obtain ⟨u0, hz⟩ := hz
      have ha := addr_spot a w _ hz
      obtain ⟨b, o, hbo⟩ : ∃ b o, a = ⟨b, o, none⟩ := ⟨_, _, ha⟩
      subst hbo
      have hlt : b < w.heap.size := block_lt_of_cell hz
      refine ⟨_, (List.range len).map f, rfl, ⟨.inr ⟨b, o, cap, by simp, hlt, fun k c hk j u hu => ?_⟩, hok _ (by simp)⟩, .inr ⟨_, _, by rw [hx], by simp⟩⟩
      have hkl : k < len := by
        have := (List.getElem?_eq_some_iff.1 hk).1
        simpa using this
      have e : c = f k := by
        simp [List.getElem?_range hkl] at hk
        exact hk.symm
      rw [e] at hu
      have := hf k hkl j u hu
      simpa only [addr_off] using this
set_option maxRecDepth 100000 in
theorem open_srcE [Inhabited α] (hE : Readable E) {r : Reach} {b0 : Nat} {v : Value} {d : DataW H} {p : List MemPlace} (hv : Value.okWide Try.prog w r b0 E.sl v) (h : DataW.Trod enc Try.prog w base spare held E.sl v d p) :
    ∃ l : List α, SrcE E w v l ∧ (l = [] ∨ ∃ es sp, d = .slice es sp ∧ es.length = l.length) := by
  obtain ⟨a, len, cap, rfl⟩ := okWide_slice E.under hv
  obtain ⟨fuel, hf⟩ := h
  obtain ⟨v', l, hcs, hl, hm⟩ := open_elems hE hf
  obtain rfl : v' = .slice a len cap := by
    simp [Value.cells] at hcs
    exact hcs.symm
  exact ⟨l, hl, hm⟩
set_option maxRecDepth 100000 in
/-- What a caller hands over is no longer than its memory. -/
theorem reach_srcE (hE : Readable E) {ts : List TypeId} {ds : List (DataW H)} {j : Nat} {d : DataW H} {l : List α} (hsz : (DataW.weightsEach Try.prog ts ds).all (· ≤ reachBytes) = true) (ht : ts[j]? = some E.sl) (hd : ds[j]? = some d) (h : l = [] ∨ ∃ es sp, d = .slice es sp ∧ es.length = l.length) : l.length * E.bytes ≤ 140737488351232 := by
  rcases h with rfl | ⟨es, sp, rfl, hl⟩
  · simp
  · have := List.all_eq_true.1 hsz _ (DataW.weights_mem_each ht hd ((es.length + sp.length) * Try.prog.bytesOf E.t) (by simp [DataW.weights, E.under]))
    rw [hE.bytes] at this
    have h2 : (es.length + sp.length) * E.bytes ≤ 140737488351232 := of_decide_eq_true this
    rw [← hl]
    exact Nat.le_trans (Nat.mul_le_mul_right _ (by omega)) h2
theorem len_fit {l : List α} {N : Nat} (h : l.length * E.bytes ≤ N) : l.length ≤ N := Nat.le_trans (Nat.le_mul_of_pos_right _ E.bpos) h
end

/-- A law's last step: what it answers is shut, and nothing that was there has turned. -/
theorem post_law {H : Type} {enc : TypeId × Value → H} {P : Program} {f : Func} {s : ChangeSpec} {W W' : World} {args : Array Value} {v : Value} {ds gs : List (DataW H)} {before pa pv : List MemPlace}
    (hW : DataW.Whole enc P f.params.toList s.vars false W args.toList ds gs before) (hb : Below W.heap.size W W')
    (hres : DataW.TrodAll enc P W' W.heap.size (fun _ => false) false f.resultTypes.toList (v.resultList f.resultTypes.size) (s.fn H (ds ++ gs)).results [])
    (hargs : DataW.TrodAll enc P W' 0 (fun b => decide (b < W.heap.size)) true f.params.toList args.toList (s.fn H (ds ++ gs)).args pa)
    (hvars : DataW.TrodVars enc P W' (fun b => decide (b < W.heap.size)) s.vars (s.fn H (ds ++ gs)).vars pv) (hp : before = pa ++ pv) : s.post enc P f false true false false W args v W' :=
  ⟨ds, gs, before, [], pa, pv, hW, hres, hargs, hvars, World.keptBut_mono (fun p h => ⟨h, Or.inr (by rw [hp] at h; simpa using h)⟩) (hb.frame (· ∈ before)), fun h => by cases h⟩

/-- What was read of the arguments reads as it did where nothing that was there has turned. -/
theorem below_trodAll {H : Type} {enc : TypeId × Value → H} {P : Program} (hl : laidOutB P = true) {W W' : World} (hb : Below W.heap.size W W') :
    ∀ {ts : List TypeId} {vs : List Value} {ds : List (DataW H)} {ps : List MemPlace}, (ts.all fun t => P.readableRec t && decide (t < P.types.size)) = true → DataW.TrodAll enc P W 0 (fun _ => true) true ts vs ds ps → (∀ x ∈ ps, x.block < W.heap.size) →
      DataW.TrodAll enc P W' 0 (fun b => decide (b < W.heap.size)) true ts vs ds ps
  | [], _, _, _, _, h, _ => by
    obtain ⟨rfl, rfl, rfl⟩ := trodAll_nil h
    exact trodAll_mk0
  | t :: ts, _, _, _, hr, h, hlt => by
    obtain ⟨v, vs1, d, ds1, a, b, rfl, rfl, rfl, h1, h2⟩ := trodAll_cons h
    simp only [List.all_cons, Bool.and_eq_true, decide_eq_true_eq] at hr
    exact trodAll_cons_mk (Below.trod hl hr.1.1 hr.1.2 h1 hb (fun x hx => hlt x (List.mem_append_left _ hx))) (below_trodAll hl hb hr.2 h2 (fun x hx => hlt x (List.mem_append_right _ hx)))
end Go.Proofs.Ytnahhbpaijfpbaa
