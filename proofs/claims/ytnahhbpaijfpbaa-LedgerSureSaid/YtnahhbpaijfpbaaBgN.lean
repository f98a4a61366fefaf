/- BgN: BgI, BgK, BgN. -/
import Derived.Test.YtnahhbpaijfpbaaBgV
import Derived.Test.YtnahhbpaijfpbaaBgM
import Derived.Test.YtnahhbpaijfpbaaVcL
import Derived.Test.YtnahhbpaijfpbaaSxIns
namespace Go.Proofs.Ytnahhbpaijfpbaa
section
open Go Go.RowKit Go.BigFrame
end
section
open Go Go.RowKit Go.BigFrame
end
section
open Go Go.RowKit Go.BigFrame
theorem foldI_step (l : List Vl) {m : List Vl} {k : Nat} {y : Vl} (q : Vl → Bool) (h : m[k]? = some y) : foldI l ((m.take (k + 1)).filter q) = if q y = true then insB y (foldI l ((m.take k).filter q)) else foldI l ((m.take k).filter q) := by
  rw [filter_step h]
  unfold foldI
  rw [List.foldl_append]
  split <;> rfl
theorem srt_part {a b : Bg} (ha : MayB a) (hb : MayB b) (k : Nat) : Srt (foldI (keptA a b) ((b.v.take k).filter fun x => !hasV a.k x.1)) :=
  srt_foldI (ha.srt.sublist List.filter_sublist) ((srt_take hb.srt k).sublist List.filter_sublist) fun x hx y hy e => by
    have h1 := ha.has x (mem_keptA.1 hx).1
    have h2 := (List.mem_filter.1 hy).2
    rw [← e, h1] at h2
    cases h2
theorem part_len {a b : Bg} (ha : MayB a) (hb : MayB b) (k : Nat) : (foldI (keptA a b) ((b.v.take k).filter fun x => !hasV a.k x.1)).length ≤ 64 := by
  rw [foldI_len]
  have h1 : (keptA a b).length ≤ a.v.length := List.length_filter_le _ _
  have h2 := filter_le (fun x : Vl => !hasV a.k x.1) b.v k
  have h3 := ha.len
  have h4 := hb.len
  omega
theorem join_ways4 {a b x : Bg} {e : Int} (h : joinBR a b = (x, e)) : (mayB a = false ∧ x = noB ∧ e = 1) ∨ (mayB a = true ∧ mayB b = false ∧ x = noB ∧ e = 1) ∨ (mayB a = true ∧ mayB b = true ∧ ¬ (joinB a b).v.length ≤ 32 ∧ x = noB ∧ e = 5) ∨ (mayB a = true ∧ mayB b = true ∧ (joinB a b).v.length ≤ 32 ∧ x = joinB a b ∧ e = 0) := by
  unfold joinBR at h
  cases h1 : mayB a
  · rw [if_neg (by rw [h1]; simp)] at h
    obtain ⟨k1, k2⟩ := Prod.mk.inj h
    exact .inl ⟨rfl, k1.symm, k2.symm⟩
  · cases h2 : mayB b
    · rw [if_neg (by rw [h2]; simp)] at h
      obtain ⟨k1, k2⟩ := Prod.mk.inj h
      exact .inr (.inl ⟨rfl, rfl, k1.symm, k2.symm⟩)
    · rw [if_pos ⟨h1, h2⟩] at h
      split at h
      · obtain ⟨k1, k2⟩ := Prod.mk.inj h
        exact .inr (.inr (.inr ⟨rfl, rfl, by assumption, k1.symm, k2.symm⟩))
      · obtain ⟨k1, k2⟩ := Prod.mk.inj h
        exact .inr (.inr (.inl ⟨rfl, rfl, by assumption, k1.symm, k2.symm⟩))
theorem dotB_ways (d1 d2 : Int) : (¬ 0 ≤ d1 ∧ dotB (d1, d2) = false) ∨ (0 ≤ d1 ∧ ¬ d1 < 8 ∧ dotB (d1, d2) = false) ∨ (0 ≤ d1 ∧ d1 < 8 ∧ ¬ 1 ≤ d2 ∧ dotB (d1, d2) = false) ∨ (0 ≤ d1 ∧ d1 < 8 ∧ 1 ≤ d2 ∧ ¬ d2 ≤ 1000000 ∧ dotB (d1, d2) = false) ∨ (0 ≤ d1 ∧ d1 < 8 ∧ 1 ≤ d2 ∧ d2 ≤ 1000000 ∧ dotB (d1, d2) = true) := by
  have hn : ¬ ((0 ≤ d1 ∧ d1 < 8) ∧ 1 ≤ d2 ∧ d2 ≤ 1000000) → dotB (d1, d2) = false := fun h => by
    rw [← Bool.not_eq_true, dotB_iff]
    exact h
  by_cases h1 : 0 ≤ d1
  · by_cases h2 : d1 < 8
    · by_cases h3 : 1 ≤ d2
      · by_cases h4 : d2 ≤ 1000000
        · exact .inr (.inr (.inr (.inr ⟨h1, h2, h3, h4, dotB_iff.2 ⟨⟨h1, h2⟩, h3, h4⟩⟩)))
        · exact .inr (.inr (.inr (.inl ⟨h1, h2, h3, h4, hn (by omega)⟩)))
      · exact .inr (.inr (.inl ⟨h1, h2, h3, hn (by omega)⟩))
    · exact .inr (.inl ⟨h1, h2, hn (by omega)⟩)
  · exact .inl ⟨h1, hn (by omega)⟩
theorem put_ways5 {b x : Bg} {k : Nat → Int} {d : En} {t : ByteArray} {e : Int} (h : putBR b k d t = (x, e)) : (mayB b = false ∧ x = noB ∧ e = 1) ∨ (mayB b = true ∧ mayV k = false ∧ x = noB ∧ e = 1) ∨ (mayB b = true ∧ mayV k = true ∧ dotB d = false ∧ x = noB ∧ e = 1) ∨ (mayB b = true ∧ mayV k = true ∧ dotB d = true ∧ hasV b.k d = true ∧ x = noB ∧ e = 1) ∨ (mayB b = true ∧ mayV k = true ∧ dotB d = true ∧ hasV b.k d = false ∧ ¬ t.size ≤ 64 ∧ x = noB ∧ e = 1) ∨ (mayB b = true ∧ mayV k = true ∧ dotB d = true ∧ hasV b.k d = false ∧ t.size ≤ 64 ∧ ¬ (putB b k d t).v.length ≤ 32 ∧ x = noB ∧ e = 5) ∨ (mayB b = true ∧ mayV k = true ∧ dotB d = true ∧ hasV b.k d = false ∧ t.size ≤ 64 ∧ (putB b k d t).v.length ≤ 32 ∧ x = putB b k d t ∧ e = 0) := by
  unfold putBR at h
  by_cases hc : mayB b = true ∧ mayV k = true ∧ dotB d = true ∧ hasV b.k d = false ∧ t.size ≤ 64
  · rw [if_pos hc] at h
    obtain ⟨c1, c2, c3, c4, c5⟩ := hc
    split at h
    · obtain ⟨k1, k2⟩ := Prod.mk.inj h
      exact .inr (.inr (.inr (.inr (.inr (.inr ⟨c1, c2, c3, c4, c5, by assumption, k1.symm, k2.symm⟩)))))
    · obtain ⟨k1, k2⟩ := Prod.mk.inj h
      exact .inr (.inr (.inr (.inr (.inr (.inl ⟨c1, c2, c3, c4, c5, by assumption, k1.symm, k2.symm⟩)))))
  · rw [if_neg hc] at h
    obtain ⟨k1, k2⟩ := Prod.mk.inj h
    cases c1 : mayB b with
    | false => exact .inl ⟨rfl, k1.symm, k2.symm⟩
    | true =>
      cases c2 : mayV k with
      | false => exact .inr (.inl ⟨rfl, rfl, k1.symm, k2.symm⟩)
      | true =>
        cases c3 : dotB d with
        | false => exact .inr (.inr (.inl ⟨rfl, rfl, rfl, k1.symm, k2.symm⟩))
        | true =>
          cases c4 : hasV b.k d with
          | true => exact .inr (.inr (.inr (.inl ⟨rfl, rfl, rfl, rfl, k1.symm, k2.symm⟩)))
          | false => exact .inr (.inr (.inr (.inr (.inl ⟨rfl, rfl, rfl, rfl, fun q => hc ⟨c1, c2, c3, c4, q⟩, k1.symm, k2.symm⟩))))
theorem vl_dot {y : Vl} {p : Nat → Value → Prop} (h : ∀ k u, (elemV.enc y)[k]? = some u → p k u) : ∀ k u, ([.int .i64 y.1.1, .int .i64 y.1.2] : List Value)[k]? = some u → p k u := fun k u hk => by
  refine h k u ?_
  match k, hk with
  | 0, hk => exact hk
  | 1, hk => exact hk
  | k + 2, hk => simp at hk
end
end Go.Proofs.Ytnahhbpaijfpbaa
