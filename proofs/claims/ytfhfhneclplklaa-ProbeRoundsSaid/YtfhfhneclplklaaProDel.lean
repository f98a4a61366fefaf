/- The landed probe: slices.IndexFunc and slices.DeleteFunc with the closure that Next hands on. -/
import Derived.Test.YtfhfhneclplklaaProPeers
import Derived.Lib.SliceRun
namespace Go.Proofs.Ytfhfhneclplklaa
open Go Go.RowKit

/-- A row of ints that may be rewritten: at block g from o on. -/
structure RowI (W : World) (g o : Nat) (l : List Int) : Prop where
  lt : g < W.heap.size
  fz : ∀ j, W.frozen? ⟨g, j, none⟩ = false
  cell : ∀ k x, l[k]? = some x → W.cell? ⟨g, o + k, none⟩ = some (.int .i64 x)
theorem RowI.later {W : World} {g o : Nat} {l : List Int} (h : RowI W g o l) (x : Later W) : RowI x.w g o l :=
  ⟨Nat.lt_of_lt_of_le h.lt x.below.size, fun j => (x.below.frozen (p := ⟨g, j, none⟩) h.lt).trans (h.fz j), fun k y hk => (x.below.cell (p := ⟨g, _, none⟩) h.lt).trans (h.cell k y hk)⟩
theorem RowI.set {W : World} {g o : Nat} {l : List Int} (h : RowI W g o l) (k : Nat) (x : Int) (hk : k < l.length) : RowI (W.setCell ⟨g, o + k, none⟩ (.int .i64 x)) g o (l.set k x) := by
  refine ⟨by simpa [World.setCell] using h.lt, fun j => by rw [World.frozen?_setCell]; exact h.fz j, fun j y hj => ?_⟩
  by_cases e : j = k
  · subst e
    rw [List.getElem?_set_self hk] at hj
    obtain rfl := Option.some.inj hj
    exact World.cell?_setCell_same _ _ _ (h.cell j _ (List.getElem?_eq_getElem hk))
  · rw [List.getElem?_set_ne (Ne.symm e)] at hj
    rw [World.cell?_setCell_other _ _ _ _ (by intro h; simp only [Addr.mk.injEq] at h; omega)]
    exact h.cell j y hj
theorem RowI.take {W : World} {g o : Nat} {l : List Int} (h : RowI W g o l) (k : Nat) : RowI W g o (l.take k) :=
  ⟨h.lt, h.fz, fun j x hj => by
    rw [List.getElem?_take] at hj
    split at hj
    · exact h.cell j x hj
    · cases hj⟩
theorem size_setCellsI (b : Nat) : ∀ (vs : List Value) (o : Nat) (w : World), (w.setCells b o vs).heap.size = w.heap.size
  | [], _, _ => rfl
  | v :: r, o, w => by rw [World.setCells, size_setCellsI b r]; simp [World.setCell]
theorem RowI.cleared {W : World} {g o : Nat} {l : List Int} (h : RowI W g o l) (i : Nat) (vs : List Value) : RowI (W.setCells g (o + i) vs) g o (l.take i) :=
  ⟨by rw [size_setCellsI]; exact h.lt, fun j => by rw [World.frozen?_setCells]; exact h.fz j, fun j x hj => by
    rw [List.getElem?_take] at hj
    split at hj
    · rename_i hji
      rw [World.cell?_setCells_out _ _ _ _ _ (fun _ _ => .inl (show o + j < o + i by omega))]
      exact h.cell j x hj
    · cases hj⟩
theorem Fr.setCells {F : Nat → Prop} {W : World} {b : Nat} (hb : F b) : ∀ (vs : List Value) (o : Nat) {W' : World}, Fr F W W' → Fr F W (W'.setCells b o vs)
  | [], _, _, h => h
  | v :: r, o, _, h => by rw [World.setCells]; exact Fr.setCells hb r (o + 1) (h.set b o v (.inl hb))
theorem RowI.ints {W : World} {g o cap : Nat} {l : List Int} (h : RowI W g o l) : IntsAt W (.slice (some ⟨g, o, none⟩) l.length cap) l := .inr ⟨g, o, cap, rfl, h.lt, h.cell⟩

/-- The first one of l that P has not. -/
def firstGone (P l : List Int) : Int := match l.findIdx? (fun n => !P.contains n) with | some k => k | none => -1
theorem firstGone_hit {P l : List Int} {k : Nat} {x : Int} (hk : l[k]? = some x) (hx : P.contains x = false) (hn : (l.take k).filter (fun n => P.contains n) = l.take k) : firstGone P l = k := by
  obtain ⟨hlt, he⟩ := List.getElem?_eq_some_iff.1 hk
  have : l.findIdx? (fun n => !P.contains n) = some k := by
    rw [List.findIdx?_eq_some_iff_getElem]
    refine ⟨hlt, by rw [he, hx]; rfl, fun j hj => ?_⟩
    rw [List.filter_eq_self] at hn
    have := hn l[j] (by rw [List.mem_iff_getElem]; exact ⟨j, by rw [List.length_take]; omega, by rw [List.getElem_take]⟩)
    simp only [this]
    simp
  unfold firstGone
  rw [this]
theorem firstGone_none {P l : List Int} (hn : l.filter (fun n => P.contains n) = l) : firstGone P l = -1 := by
  have : l.findIdx? (fun n => !P.contains n) = none := by
    rw [List.findIdx?_eq_none_iff]
    intro x hx
    rw [List.filter_eq_self] at hn
    rw [hn x hx]; rfl
  unfold firstGone
  rw [this]

set_option maxHeartbeats 1000000 in
set_option maxRecDepth 100000 in
theorem goneIdx_any (b : Nat) (u : Value) (P : List Int) (v : Value) (l : List Int) (w : World) (hb : b < w.heap.size) (hc : w.cell? ⟨b, 0, none⟩ = some u) (hu : IntsAt w u P) (hP : P.length ≤ 1000) (hv : IntsAt w v l) (hl : l.length ≤ 1000) :
    Gives Try.prog 28 #[v, .func (.func 25) #[] #[.pointer (some ⟨b, 0, none⟩)]] w (.int .i64 (firstGone P l)) := by
  unfold Gives
  obtain ⟨p, cap, rfl, hp⟩ := hv.form
  have HP := Lib.hid hp
  have HU := Lib.hid hu
  have HC := Lib.hid hc
  clear hv hp hu hc
  go_enter Try.func28, Try.ntmps28
  go_wp2_with fail
  go_loopw [5, 8] (fun _ i wr => ∃ k : Nat, k ≤ l.length ∧ i = .int .i64 k ∧ Hid ((l.take k).filter (fun n => P.contains n) = l.take k) ∧ ∃ x : Later w, wr = x.w) (fun _ i _ => l.length - (intOf i).toNat)
  case atStart => exact ⟨0, by omega, rfl, Lib.hid (by simp), ⟨w, Below.refl _ _⟩, rfl⟩
  case round =>
    obtain ⟨k, hk, rfl, HN, x, rfl⟩ := hrel
    by_cases hkl : k < l.length
    · obtain ⟨c, hkc⟩ : ∃ c, l[k]? = some c := ⟨_, List.getElem?_eq_getElem hkl⟩
      rcases HP.out with h0 | ⟨g, o, rfl, hlt, hcl⟩
      · rw [h0] at hkl; simp at hkl
      have a0 := hcl k _ hkc
      have HK := Lib.hid hkc
      have HG := Lib.hid (gone_any b u P c x.w ((x.below.cell (p := ⟨b, _, none⟩) hb).trans HC.out) (HU.out.below x.below) hP)
      clear hcl hkc
      cases hcn : P.contains c with
      | false =>
        rw [hcn] at HG
        have HV : Hid (firstGone P l = k) := Lib.hid (firstGone_hit HK.out hcn HN.out)
        clear hcn
        go_wp2_with fail
        refine Gives.mono' HG.out ?_
        intro y
        go_wp2_with fail
        go_ret
        exact ⟨by rw [HV.out]; rfl, Later.ex (below_later x.below x.below.size y)⟩
      | true =>
        rw [hcn] at HG
        have HUp := Lib.hid (filter_hit HK.out hcn)
        clear hcn
        go_wp2_with fail
        refine Gives.mono' HG.out ?_
        intro y
        go_wp2_with fail
        go_roundw
        case rel => exact ⟨k + 1, by omega, by go_num, Lib.hid (by rw [HUp.out, HN.out, List.take_add_one, HK.out]; rfl), Later.ex (below_later x.below x.below.size y)⟩
        case measure => simp [intOf]; omega
    · obtain rfl : k = l.length := by omega
      have HV : Hid (firstGone P l = -1) := Lib.hid (firstGone_none (by have := HN.out; rw [List.take_length] at this; exact this))
      go_wp2_with fail
      go_ret
      exact ⟨by rw [HV.out]; rfl, Later.ex x.below⟩

/-- What is there of a row while those that are gone are struck: i kept of the first j. -/
structure Striking (P l : List Int) (i j : Nat) (L : List Int) : Prop where
  len : L.length = l.length
  kept : L.take i = (l.take j).filter fun n => P.contains n
  rest : L.drop j = l.drop j
  lt : i < j
theorem Striking.keep {P l L : List Int} {i j : Nat} {x : Int} (h : Striking P l i j L) (hx : l[j]? = some x) (hp : P.contains x = true) : L[j]? = some x ∧ Striking P l (i + 1) (j + 1) (L.set i x) := by
  have hj := (List.getElem?_eq_some_iff.1 hx).1
  have hl := h.len
  have hij := h.lt
  have hLj : L[j]? = some x := by
    have := congrArg (·[0]?) h.rest
    simpa [List.getElem?_drop, hx] using this
  refine ⟨hLj, by simpa using hl, ?_, ?_, by omega⟩
  · rw [filter_hit hx hp, ← h.kept]
    rw [List.take_add_one, List.getElem?_set_self (by omega), List.take_set_of_le (Nat.le_refl i)]
    rfl
  · have := congrArg (List.drop 1) h.rest
    rw [List.drop_drop, List.drop_drop] at this
    rw [List.drop_set_of_lt (by omega)]
    exact this
theorem Striking.skip {P l L : List Int} {i j : Nat} {x : Int} (h : Striking P l i j L) (hx : l[j]? = some x) (hp : P.contains x = false) : L[j]? = some x ∧ Striking P l i (j + 1) L := by
  have hLj : L[j]? = some x := by
    have := congrArg (·[0]?) h.rest
    simpa [List.getElem?_drop, hx] using this
  refine ⟨hLj, h.len, ?_, ?_, by have := h.lt; omega⟩
  · rw [filter_miss hx hp]; exact h.kept
  · have := congrArg (List.drop 1) h.rest
    rw [List.drop_drop, List.drop_drop] at this
    exact this
theorem gone_split (P l : List Int) : (l.filter (fun n => P.contains n) = l ∧ firstGone P l = -1) ∨ ∃ (k : Nat) (x : Int), l[k]? = some x ∧ P.contains x = false ∧ firstGone P l = (k : Int) ∧ Striking P l k (k + 1) l := by
  cases hf : l.findIdx? (fun n => !P.contains n) with
  | none =>
    rw [List.findIdx?_eq_none_iff] at hf
    have : l.filter (fun n => P.contains n) = l := by
      rw [List.filter_eq_self]
      intro x hx
      simpa using hf x hx
    exact .inl ⟨this, firstGone_none this⟩
  | some k =>
    have hf' := hf
    rw [List.findIdx?_eq_some_iff_getElem] at hf
    obtain ⟨hlt, h1, h2⟩ := hf
    have hk : l[k]? = some l[k] := List.getElem?_eq_getElem hlt
    have hx : P.contains l[k] = false := by simpa using h1
    have hn : (l.take k).filter (fun n => P.contains n) = l.take k := by
      rw [List.filter_eq_self]
      intro x hx
      rw [List.mem_iff_getElem] at hx
      obtain ⟨j, hj, rfl⟩ := hx
      rw [List.length_take] at hj
      rw [List.getElem_take]
      simpa using h2 j (by omega)
    refine .inr ⟨k, l[k], hk, hx, firstGone_hit hk hx hn, rfl, ?_, rfl, by omega⟩
    rw [filter_miss hk hx, hn]
end Go.Proofs.Ytfhfhneclplklaa
