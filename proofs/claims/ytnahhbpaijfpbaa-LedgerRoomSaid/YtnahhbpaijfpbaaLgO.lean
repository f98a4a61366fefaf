/- Rows of deeds with all that they hold, as a call made them. -/
import Derived.Test.YtnahhbpaijfpbaaLgV
namespace Go.Proofs.Ytnahhbpaijfpbaa
open Go Go.RowKit Go.BigFrame

/-- A deed's rows, the call's own. -/
def rowsX (x : Dx) : List At := [rowT elemV x.sv x.d.b.v, rowT elemI x.sr x.d.r.p.2.2]
def ownX (xs : List Dx) : At := listT (xs.flatMap rowsX)
theorem vMem {α : Type} {E : Elem Try.prog α} {v : Value} {xs : List α} {l : List At} {A : At} (hA : A ∈ l) (hr : Reads E A v xs) : Reads E (listT l) v xs := by
  obtain ⟨i, hi⟩ := List.mem_iff_getElem?.1 hA
  exact vL i hi hr
theorem ownX_v {xs : List Dx} {x : Dx} (h : x ∈ xs) : Reads elemV (ownX xs) x.sv x.d.b.v := vMem (List.mem_flatMap.2 ⟨x, h, List.mem_cons_self⟩) rowT_reads
theorem ownX_r {xs : List Dx} {x : Dx} (h : x ∈ xs) : Reads elemI (ownX xs) x.sr x.d.r.p.2.2 := vMem (List.mem_flatMap.2 ⟨x, h, List.mem_cons_of_mem _ List.mem_cons_self⟩) rowT_reads
theorem ownX_reads {xs : List Dx} (h : ∀ d ∈ xs.map (fun x => x.d), mayD d = true) : ∀ x ∈ xs, DxR (ownX xs) x := fun x hx => by
  have hm := mayD_len (h x.d (List.mem_map.2 ⟨x, hx, rfl⟩))
  exact ⟨ownX_v hx, by omega, ownX_r hx, by omega⟩
theorem DdR.of {R R' : At} {d : Dd} {sv sr : Value} (h : DdR R d sv sr) (hv : ∀ {v : Value} {xs : List Vl}, Reads elemV R v xs → Reads elemV R' v xs) (hr : ∀ {v : Value} {xs : List Int}, Reads elemI R v xs → Reads elemI R' v xs) : DdR R' d sv sr := ⟨hv h.v, h.lv, hr h.r, h.lr⟩
theorem DxR.list {A : At} {x : Dx} {l : List At} (h : DxR A x) (i : Nat) (hi : l[i]? = some A) : DxR (listT l) x := DdR.of h (fun q => vL i hi q) (fun q => vL i hi q)
theorem DxR.old {W0 : World} {x : Dx} (hv : SrcE elemV W0 x.sv x.d.b.v) (lv : x.d.b.v.length ≤ 4398046510976) (hr : SrcE elemI W0 x.sr x.d.r.p.2.2) (lr : x.d.r.p.2.2.length ≤ 1000) : DxR (oldT W0) x := ⟨vOld hv, lv, srcOld hr, lr⟩
/-- A row of deeds that a call made, with all that it holds. -/
def alT (u : Value) (l : List Dd) : At := exT fun s : List Dx × Option Addr × Nat => [prT (s.1.map (fun x => x.d) = l ∧ u = .slice s.2.1 s.1.length s.2.2), rowT elemDx (.slice s.2.1 s.1.length s.2.2) s.1, ownX s.1]
section
variable {L : List At} {H0 : Nat → Prop} {w W : World}
theorem Mem.alR {u : Value} {l : List Dd} (h : Mem (alT u l :: L) H0 w W) : ∃ (xs : List Dx) (p : Option Addr) (c : Nat), xs.map (fun x => x.d) = l ∧ u = .slice p xs.length c ∧ Mem (rowT elemDx (.slice p xs.length c) xs :: ownX xs :: L) H0 w W := by
  obtain ⟨s, h⟩ := Mem.ex h
  obtain ⟨hu, h⟩ := Mem.pr h
  exact ⟨s.1, s.2.1, s.2.2, hu.1, hu.2, h⟩
theorem Mem.toAlR {p : Option Addr} {c : Nat} {xs : List Dx} (h : Mem (rowT elemDx (.slice p xs.length c) xs :: ownX xs :: L) H0 w W) : Mem (alT (.slice p xs.length c) (xs.map fun x => x.d) :: L) H0 w W := Mem.addEx (xs, p, c) (Mem.addPr ⟨rfl, rfl⟩ h)
end
end Go.Proofs.Ytnahhbpaijfpbaa
