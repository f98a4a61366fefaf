/- Bags: the laws, for whatever arguments a caller hands over. -/
import Derived.Test.YtneeidedadlioaaOpenRow
import Derived.Test.YtneeidedadlioaaVcT
import Derived.Test.YtneeidedadlioaaBgJ
import Derived.Test.YtneeidedadlioaaBgT
import Derived.Test.YtneeidedadlioaaBgQ
import Derived.Test.YtneeidedadlioaaBgZ
import Derived.ChangeMaps5
namespace Go.Proofs.Ytneeidedadlioaa
open Go Go.ChangeShapes Go.WideShapes Go.ChangeAt Go.RowKit Go.Joins Go.ChangeMaps

section
variable {H : Type} {enc : TypeId × Value → H} {w : World} {base : Nat} {spare : Nat → Bool} {held : Bool}
theorem open_str {b0 : Nat} {v : Value} {d : DataW H} {ps : List MemPlace} (hval : Value.okWide Try.prog w .any b0 9 v) (hd : DataW.Trod enc Try.prog w base spare held 9 v d ps) : ∃ s : ByteArray, v = .string s := by
  obtain ⟨s, h, _⟩ := open_string Try.underlying9 hval hd
  exact ⟨s, h⟩
theorem readStp : Readable elemStp where
  cells := by kernel_rfl
  bytes := by kernel_rfl
  read {H enc w base spare held fuel cs x} h := by
    have cellsInt : Try.prog.cellsOf 3 = 1 := by kernel_rfl
    have cellsE : Try.prog.cellsOf 55 = 3 := by kernel_rfl
    obtain ⟨xs, n, _, _, hlen, hxs, hf⟩ := DataW.trod_struct Try.underlying55 h
    have h0 : DataW.trod enc Try.prog w base spare held n 3 ((cs.drop 0).take (Try.prog.cellsOf 3)) = xs[0]? := hf 0 _ rfl
    have h1 : DataW.trod enc Try.prog w base spare held n 3 ((cs.drop 1).take (Try.prog.cellsOf 3)) = xs[1]? := hf 1 _ rfl
    have h2 : DataW.trod enc Try.prog w base spare held n 3 ((cs.drop 2).take (Try.prog.cellsOf 3)) = xs[2]? := hf 2 _ rfl
    rw [cellsInt] at h0 h1 h2
    simp only [List.size_toArray, List.length_cons, List.length_nil, Nat.zero_add, Nat.reduceAdd] at hxs
    match cs, hlen.trans cellsE with
    | [a, b, c], _ =>
      match xs, hxs with
      | [y0, y1, y2], _ =>
        obtain ⟨n0, e0, _⟩ := DataW.trod_int Try.underlying3 (h0.trans rfl)
        obtain ⟨n1, e1, _⟩ := DataW.trod_int Try.underlying3 (h1.trans rfl)
        obtain ⟨n2, e2, _⟩ := DataW.trod_int Try.underlying3 (h2.trans rfl)
        simp at e0 e1 e2
        subst e0 e1 e2
        exact ⟨(n0, n1, n2), rfl⟩
theorem readV : Readable elemV where
  cells := by kernel_rfl
  bytes := by kernel_rfl
  read {H enc w base spare held fuel cs x} h := by
    have cellsD : Try.prog.cellsOf 39 = 2 := by kernel_rfl
    have cellsS : Try.prog.cellsOf 9 = 1 := by kernel_rfl
    have cellsE : Try.prog.cellsOf 41 = 3 := by kernel_rfl
    obtain ⟨xs, n, _, _, hlen, hxs, hf⟩ := DataW.trod_struct Try.underlying41 h
    have h0 : DataW.trod enc Try.prog w base spare held n 39 ((cs.drop 0).take (Try.prog.cellsOf 39)) = xs[0]? := hf 0 _ rfl
    have h1 : DataW.trod enc Try.prog w base spare held n 9 ((cs.drop 2).take (Try.prog.cellsOf 9)) = xs[1]? := hf 1 _ rfl
    rw [cellsD] at h0
    rw [cellsS] at h1
    simp only [List.size_toArray, List.length_cons, List.length_nil, Nat.zero_add, Nat.reduceAdd] at hxs
    match cs, hlen.trans cellsE with
    | [a, b, c], _ =>
      match xs, hxs with
      | [y0, y1], _ =>
        obtain ⟨y, e0⟩ := read_dot (h0.trans rfl)
        obtain ⟨s, e1, _⟩ := DataW.trod_string Try.underlying9 (h1.trans rfl)
        simp at e0 e1
        obtain ⟨e2, e3⟩ := e0
        subst e1 e2 e3
        exact ⟨(y, s), rfl⟩
theorem read_bag {fuel : Nat} {cs : List Value} {x : DataW H × List MemPlace} (h : DataW.trod enc Try.prog w base spare held fuel 27 cs = some x) :
    ∃ (f : Nat → Int) (v : Value) (l : List Vl), cs = bgC f v ∧ SrcE elemV w v l ∧ (l = [] ∨ ∃ d0 es sp, x.1 = .agg [d0, .slice es sp] ∧ es.length = l.length) := by
  have cellsV : Try.prog.cellsOf 24 = 8 := by kernel_rfl
  have cellsR : Try.prog.cellsOf 25 = 1 := by kernel_rfl
  have cellsB : Try.prog.cellsOf 27 = 9 := by kernel_rfl
  obtain ⟨xs, n, _, hx, hlen, hxs, hf⟩ := DataW.trod_struct Try.underlying27 h
  have h0 : DataW.trod enc Try.prog w base spare held n 24 ((cs.drop 0).take (Try.prog.cellsOf 24)) = xs[0]? := hf 0 _ rfl
  have h1 : DataW.trod enc Try.prog w base spare held n 25 ((cs.drop 8).take (Try.prog.cellsOf 25)) = xs[1]? := hf 1 _ rfl
  rw [cellsV] at h0
  rw [cellsR] at h1
  rw [cellsB] at hlen
  simp only [List.size_toArray, List.length_cons, List.length_nil, Nat.zero_add, Nat.reduceAdd] at hxs
  match xs, hxs with
  | [y0, y1], _ =>
    obtain ⟨f, e0⟩ := read_vec (h0.trans rfl)
    obtain ⟨v, l, e1, hl, hd⟩ := open_elems readV (h1.trans rfl)
    refine ⟨f, v, l, ?_, hl, ?_⟩
    · rw [List.drop_zero] at e0
      rw [List.take_of_length_le (by rw [List.length_drop, hlen]; decide)] at e1
      rw [← List.take_append_drop 8 cs, e0, e1]
      rfl
    · rcases hd with hd | ⟨es, sp, he, hn⟩
      · exact .inl hd
      · refine .inr ⟨y0.1, es, sp, ?_, hn⟩
        rw [hx]
        show DataW.agg [y0.1, y1.1] = _
        rw [he]
def bagZero : Value := bgV (fun _ => 0) (.slice none 0 0)
def bagD : DataW H := .agg [vecD, .nil]
theorem open_bag {r : Reach} {b0 : Nat} {v : Value} {d : DataW H} {p : List MemPlace} (hv : Value.okWide Try.prog w r b0 27 v) (h : DataW.Trod enc Try.prog w base spare held 27 v d p) :
    ∃ c : (Nat → Int) × Value × List Vl, v = bgV c.1 c.2.1 ∧ SrcE elemV w c.2.1 c.2.2 ∧ (c.2.2 = [] ∨ ∃ d0 es sp, d = .agg [d0, .slice es sp] ∧ es.length = c.2.2.length) := by
  obtain ⟨cs, rfl, _⟩ := okWide_struct Try.underlying27 hv
  obtain ⟨fuel, hf⟩ := h
  obtain ⟨f, s, l, hc, hs, hd⟩ := read_bag hf
  refine ⟨(f, s, l), ?_, hs, hd⟩
  congr 1
  apply Array.toList_inj.1
  simpa [Value.cells] using hc
theorem reach_bag {ts : List TypeId} {ds : List (DataW H)} {j : Nat} {d : DataW H} {l : List Vl} (hsz : (DataW.weightsEach Try.prog ts ds).all (· ≤ reachBytes) = true) (ht : ts[j]? = some 27) (hd : ds[j]? = some d) (h : l = [] ∨ ∃ d0 es sp, d = .agg [d0, .slice es sp] ∧ es.length = l.length) : l.length * 32 ≤ 140737488351232 := by
  rcases h with rfl | ⟨d0, es, sp, rfl, hl⟩
  · simp
  · have hb : Try.prog.bytesOf 41 = 32 := by kernel_rfl
    have := List.all_eq_true.1 hsz _ (DataW.weights_mem_each ht hd ((es.length + sp.length) * Try.prog.bytesOf 41) (by simp [DataW.weights, DataW.weightsEach, Try.underlying27, Try.underlying25]))
    rw [hb] at this
    have h2 : (es.length + sp.length) * 32 ≤ 140737488351232 := of_decide_eq_true this
    omega
end
theorem bagJoinsLaw (v : Value) (l : List Rw) (W : World) (h : SrcE elemStp W v l) (hm : l.length * elemStp.bytes ≤ 140737488351232) : Gives Try.prog 3 #[v] W (.bool true) := (bjoinsLaw_d W v l h (len_fit hm)).givesOld
theorem bagTwiceLaw (v : Value) (l : List Rw) (n : Int) (W : World) (h : SrcE elemStp W v l) (hm : l.length * elemStp.bytes ≤ 140737488351232) : Gives Try.prog 5 #[v, .int .i64 n] W (.bool true) := (btwiceLaw_d W v l h (len_fit hm) n).givesOld
theorem bagPutsLaw (c : (Nat → Int) × Value × List Vl) (k : Nat → Int) (d : En) (t : ByteArray) (W : World) (h : SrcE elemV W c.2.1 c.2.2) (hm : c.2.2.length * 32 ≤ 140737488351232) : Gives Try.prog 4 #[bgV c.1 c.2.1, vV k, .agg #[.int .i64 d.1, .int .i64 d.2], .string t] W (.bool true) := (bputsLaw_d W c.2.1 ⟨c.1, c.2.2⟩ h (by show c.2.2.length ≤ _; omega) k d.1 d.2 t).givesOld
theorem bagTextsLaw (c : (Nat → Int) × Value × List Vl) (W : World) (h : SrcE elemV W c.2.1 c.2.2) (hm : c.2.2.length * 32 ≤ 140737488351232) : Gives Try.prog 6 #[bgV c.1 c.2.1] W (.bool true) := (btextsLaw_d W c.2.1 ⟨c.1, c.2.2⟩ h (by show c.2.2.length ≤ _; omega)).givesOld
end Go.Proofs.Ytneeidedadlioaa
