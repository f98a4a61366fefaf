/- What all walks share: rows that are read of objects, objects as one, what was there before. -/
import Derived.Test.YtnahhbpaijfpbaaSxAny
import Derived.Test.YtnahhbpaijfpbaaSxArr
import Derived.Test.YtnahhbpaijfpbaaOld
import Derived.LoopN
namespace Go.Proofs.Ytnahhbpaijfpbaa
open Go Go.RowKit Go.BigFrame

theorem rounds_step {P : Program} {c : Code} {Q : Exit → Act → World → Prop} {n : Nat} {a : Act} {w : World} (h : c.wp P (Exit.then (Code.rounds P c Q n) Q) a w) : Code.rounds P c Q (n + 1) a w := h
theorem rowAt_src {P : Program} {α : Type} {E : Elem P α} {W : World} {v : Value} {l : List α} (h : SrcE E W v l) : RowAt E W v l := h.1
/-- Some objects as one. -/
def listT (l : List At) : At := ⟨stars l, stars_owns l⟩
theorem Does.ofList {pr : Program} {f : FuncId} {args : Array Value} {v : Value} {pre : List At} (h : Does pr f args [listT pre] v [listT pre]) : Does pr f args pre v pre := fun W H hs =>
  (h W H (star_comm (starl_emp hs))).mono fun _ _W' ⟨he, hr⟩ => ⟨he, hr.mono fun _ h => emp_right h⟩
theorem DoesU.ofList {pr : Program} {f : FuncId} {args : Array Value} {pre : List At} {q : Value → At} (h : DoesU pr f args [listT pre] fun u => [q u, listT pre]) : DoesU pr f args pre fun u => q u :: pre := fun W H hs =>
  (h W H (star_comm (starl_emp hs))).mono fun _ _W' ⟨u, he, hr⟩ => ⟨u, he, hr.mono fun _ h => star_mono (fun _ h => h) (fun _ h => emp_right h) h⟩
/-- Objects as one, read: a row that one of them holds. -/
theorem rowL {v : Value} {xs : List Int} : ∀ {l : List At} (i : Nat) {A : At}, l[i]? = some A → (∀ W H, A.p W H → RowAt elemI W v xs) → ∀ W H, (listT l).p W H → RowAt elemI W v xs := fun {l} i A hi hA W H h => by
  obtain ⟨H1, H2, h1, _⟩ := stars_pick l i A hi h
  exact hA W H1 h1
theorem rowOwn {v : Value} {xs : List Int} : ∀ W H, (rowT elemI v xs).p W H → RowAt elemI W v xs := fun W H h => rowAt_src (rowT_reads W H h)
theorem rowNil (R : At) : ∀ W H, R.p W H → RowAt elemI W (.slice none 0 0) [] := fun _ _ _ => .inl ⟨rfl, _, _, rfl⟩
theorem rd_form {W : World} {v : Value} {l : List Int} (h : RowAt elemI W v l) : ∃ p c, v = .slice p l.length c := by
  obtain ⟨p, c, h, _⟩ := h.form
  exact ⟨p, c, h⟩
def oldT (W : World) : At := ⟨OldA W, oldA_owns W⟩
theorem rowOld {W0 : World} {v : Value} {xs : List Int} (hv : RowAt elemI W0 v xs) : ∀ W H, (oldT W0).p W H → RowAt elemI W v xs := fun _ _ h => OldA.row h hv
theorem Does.gives {pr : Program} {f : FuncId} {args : Array Value} {v : Value} (h : Does pr f args [] v []) (W : World) : Gives pr f args W v := (h W (fun _ => False) (fun _ h => h)).mono fun _ W' ⟨he, hs⟩ => ⟨he, ⟨W', SEnd.ended hs⟩, rfl⟩
theorem Does.givesOld {pr : Program} {f : FuncId} {args : Array Value} {v : Value} {W : World} (h : Does pr f args [oldT W] v [oldT W]) : Gives pr f args W v :=
  (h W (fun k => k < W.heap.size) ⟨_, fun _ => False, oldA_self W, fun _ h => h, fun _ _ h => h, fun k => by simp⟩).mono fun _ W' ⟨he, hs⟩ => ⟨he, ⟨W', SEnd.ended (SEnd.noOld hs)⟩, rfl⟩
theorem OldA.src {w W : World} {H : Nat → Prop} {v : Value} {l : List Int} (h : OldA w W H) (hv : SrcE elemI w v l) : SrcE elemI W v l := ⟨h.row hv.1, hv.2⟩
end Go.Proofs.Ytnahhbpaijfpbaa
