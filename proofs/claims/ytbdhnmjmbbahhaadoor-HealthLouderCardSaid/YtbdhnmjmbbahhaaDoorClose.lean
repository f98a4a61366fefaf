/- How a law's walk becomes the law's row and its card: claims and numbers opened and shut, the table out of the row's list. -/
import Derived.Test.YtbdhnmjmbbahhaaDoorHealth6
import Derived.Test.YtbdhnmjmbbahhaaDoorCards
import Derived.Test.YtbdhnmjmbbahhaaDoorTie
import Derived.ProofKit
import Derived.OpenShut
import Derived.ChangeSame
import Derived.Deep.DeepHandedRow
import Derived.Lib.LaidTab
import Derived.Stop.LaidErr
import Derived.MakeChecks
import Derived.Lay
namespace Go.Proofs.YtbdhnmjmbbahhaaDoor
open Go Go.ChangeShapes Go.WideShapes Go.ChangeAt Go.RowKit Go.Joins

theorem own : ownKnob Tryd.prog.godebug = none := by kernel_rfl
theorem gTab : Tryd.prog.globalNamed "internal/strconv.uint64pow10" = some 0 := by kernel_rfl
theorem gTabType : (Tryd.prog.globals[0]?).map (·.type) = some 54 := by kernel_rfl
theorem cellsTab : Tryd.prog.cellsOf 54 = 20 := by kernel_rfl
theorem cellsU64 : Tryd.prog.cellsOf 36 = 1 := by kernel_rfl
theorem cellsClaim : Tryd.prog.cellsOf 23 = 3 := by kernel_rfl

theorem tab_of {W : World} (h : laidMetH Tryd.prog [("math/bits.deBruijn32tab", Rows.laid_math_bits_deBruijn32tab), ("math/bits.deBruijn64tab", Rows.laid_math_bits_deBruijn64tab), ("internal/strconv.uint64pow10", Rows.laid_internal_strconv_uint64pow10)] W) : Tab W := by
  rw [MakeChecks.laidMetH_plain _ _ _ (by kernel_rfl)] at h
  exact Tab.of (Lib.tabIs_of_head (rest := []) gTab gTabType Tryd.underlying54 Tryd.underlying36 cellsU64 cellsTab h.tail.tail)

section
variable {H : Type} {enc : TypeId × Value → H} {w : World} {base : Nat} {spare : Nat → Bool} {held : Bool}
theorem open_claim {r : Reach} {b0 : Nat} {v : Value} {d : DataW H} {p : List MemPlace} (hv : Value.okWide Tryd.prog w r b0 23 v) (h : DataW.Trod enc Tryd.prog w base spare held 23 v d p) :
    ∃ n i k : Int, v = .agg #[.int .i64 n, .int .i64 i, .int .i64 k] ∧ d = .agg [.lit (.int .i64 n), .lit (.int .i64 i), .lit (.int .i64 k)] ∧ p = [] ∧ (Lit.int .i64 n).wf = true ∧ (Lit.int .i64 i).wf = true ∧ (Lit.int .i64 k).wf = true := by
  obtain ⟨c0, c1, c2, y0, y1, y2, m, rfl, rfl, rfl, h0, h1, h2⟩ := open_agg3 Tryd.underlying23 (by kernel_rfl) cellsClaim hv h
  obtain ⟨n, e0, rfl, w0⟩ := DataW.trod_int Tryd.underlying3 h0
  obtain ⟨i, e1, rfl, w1⟩ := DataW.trod_int Tryd.underlying3 h1
  obtain ⟨k, e2, rfl, w2⟩ := DataW.trod_int Tryd.underlying3 h2
  simp at e0 e1 e2
  subst e0 e1 e2
  exact ⟨n, i, k, rfl, rfl, rfl, w0, w1, w2⟩
theorem shut_claim {n i k : Int} (w0 : (Lit.int .i64 n).wf = true) (w1 : (Lit.int .i64 i).wf = true) (w2 : (Lit.int .i64 k).wf = true) :
    DataW.Trod enc Tryd.prog w base spare held 23 (.agg #[.int .i64 n, .int .i64 i, .int .i64 k]) (.agg [.lit (.int .i64 n), .lit (.int .i64 i), .lit (.int .i64 k)]) [] :=
  shut_agg3 (y0 := (.lit (.int .i64 n), [])) (y1 := (.lit (.int .i64 i), [])) (y2 := (.lit (.int .i64 k), [])) Tryd.underlying23 (by kernel_rfl) cellsClaim
    ⟨1, by simp [DataW.trod, Tryd.underlying3, w0]⟩ ⟨1, by simp [DataW.trod, Tryd.underlying3, w1]⟩ ⟨1, by simp [DataW.trod, Tryd.underlying3, w2]⟩
end

/-- A law's last step: what it answers is shut, and nothing that was there has turned. -/
theorem post_law {H : Type} {enc : TypeId × Value → H} {P : Program} {f : Func} {s : ChangeSpec} {W W' : World} {args : Array Value} {v : Value} {ds gs : List (DataW H)} {before pa pv : List MemPlace}
    (hW : DataW.Whole enc P f.params.toList s.vars false W args.toList ds gs before) (hb : Below W.heap.size W W')
    (hres : DataW.TrodAll enc P W' W.heap.size (fun _ => false) false f.resultTypes.toList (v.resultList f.resultTypes.size) (s.fn H (ds ++ gs)).results [])
    (hargs : DataW.TrodAll enc P W' 0 (fun b => decide (b < W.heap.size)) true f.params.toList args.toList (s.fn H (ds ++ gs)).args pa)
    (hvars : DataW.TrodVars enc P W' (fun b => decide (b < W.heap.size)) s.vars (s.fn H (ds ++ gs)).vars pv) (hp : before = pa ++ pv) : s.post enc P f false true false false W args v W' :=
  ⟨ds, gs, before, [], pa, pv, hW, hres, hargs, hvars, World.keptBut_mono (fun p h => ⟨h, Or.inr (by rw [hp] at h; simpa using h)⟩) (hb.frame (· ∈ before)), fun h => by cases h⟩
end Go.Proofs.YtbdhnmjmbbahhaaDoor
