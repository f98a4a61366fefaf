/- Space: mathematics and small things of both seats. -/
import Derived.Test.YthibiejneggmoaaDoorSpV
namespace Go.Proofs.YthibiejneggmoaaDoor
open Go Go.RowKit Go.BigFrame

theorem int_letter (p : Int) : ∃ x, p = x := ⟨p, rfl⟩
theorem bool_letter (p : Bool) : ∃ x, p = x := ⟨p, rfl⟩
theorem nat_letter (p : Nat) : ∃ x, p = x := ⟨p, rfl⟩
def cntP (O : Nat → Int) (k : Nat) : List Int := (List.range 8).map fun n : Nat => (ctK O (n : Int) k : Int)
theorem cntP_len (O : Nat → Int) (k : Nat) : (cntP O k).length = 8 := by simp [cntP]
theorem cntP_zero (O : Nat → Int) : cntP O 0 = List.replicate 8 0 := rfl
theorem cntP_at (O : Nat → Int) (k : Nat) {n : Nat} (h : n < 8) : (cntP O k)[n]? = some (ctK O (n : Int) k : Int) := by
  unfold cntP
  rw [List.getElem?_map, List.getElem?_range h]
  rfl
theorem cntP_hit {O : Nat → Int} {k x : Nat} (h : O k = (x : Int)) (hx : x < 8) : cntP O (k + 1) = (cntP O k).set x ((ctK O (x : Int) k : Int) + 1) := by
  apply List.ext_getElem?
  intro n
  rw [List.getElem?_set]
  by_cases hn : n < 8
  · rw [cntP_at O (k + 1) hn, ctK_succ, h, cntP_len]
    by_cases e : x = n
    · subst e
      rw [if_pos rfl, if_pos rfl, if_pos hx]
      simp
    · rw [if_neg (by omega), if_neg (fun q => e q), cntP_at O k hn]
      simp
  · rw [List.getElem?_eq_none (by rw [cntP_len]; omega), if_neg (by omega), List.getElem?_eq_none (by rw [cntP_len]; omega)]
theorem cntP_miss {O : Nat → Int} {k : Nat} (h : O k < 0) : cntP O (k + 1) = cntP O k := by
  unfold cntP
  refine List.map_congr_left fun n _ => ?_
  rw [ctK_succ, if_neg (by omega)]
  rfl
theorem whoL_nat {T : List Int} {k : Nat} (h : 0 ≤ whoL T k) : ∃ x : Nat, whoL T k = (x : Int) ∧ x < 8 := by
  obtain ⟨x, hx⟩ := Int.eq_ofNat_of_zero_le h
  have := whoL_range T k
  exact ⟨x, hx, by omega⟩
theorem whoL_nat' {x : Int} (h : nodeE x = true) : ∃ n : Nat, x = (n : Int) ∧ n < 8 := by
  have h1 := nodeE_iff.1 h
  obtain ⟨n, hn⟩ := Int.eq_ofNat_of_zero_le h1.1
  exact ⟨n, hn, by omega⟩
def leastJ (T : List Int) (n : Int) (k : Nat) : Nat := if nodeE n = true then leastK (whoL T) n k else 0
theorem leastJ_le (T : List Int) (n : Int) (k : Nat) : leastJ T n k ≤ 16 := by
  unfold leastJ
  split
  · rcases leastK_spec (whoL T) n k with ⟨h, _⟩ | ⟨p, _, _, h, _⟩
    · rw [h]; omega
    · rw [h]; exact (nextO_range _ _).2
  · omega
theorem leastJ_not {T : List Int} {n : Int} {k : Nat} (h : nodeE n = false) : leastJ T n (k + 1) = leastJ T n k := by
  unfold leastJ
  rw [if_neg (by rw [h]; simp), if_neg (by rw [h]; simp)]
theorem leastJ_miss {T : List Int} {n : Int} {k : Nat} (h : ¬ whoL T k = n) : leastJ T n (k + 1) = leastJ T n k := by
  unfold leastJ
  split
  · show leastK (whoL T) n (k + 1) = _
    unfold leastK
    rw [if_neg h]
    cases k <;> rfl
  · rfl
theorem leastJ_hit {T : List Int} {n : Int} {k : Nat} (hn : nodeE n = true) (h : whoL T k = n) : leastJ T n (k + 1) = if leastJ T n k = 0 ∨ nextO (whoL T) k < leastJ T n k then nextO (whoL T) k else leastJ T n k := by
  unfold leastJ
  rw [if_pos hn, if_pos hn]
  show leastK (whoL T) n (k + 1) = _
  conv => lhs; unfold leastK
  rw [if_pos h]
theorem leastJ_end {T : List Int} {n : Int} : leastI T n = (leastJ T n 16 : Int) := by
  unfold leastI leastJ
  split <;> rfl
def uA : Option (Int × Int) → Int
  | none => 0
  | some q => q.1
def uB : Option (Int × Int) → Int
  | none => 0
  | some q => q.2
theorem uA_sub (st : Option (Int × Int)) : uA st - uB st = unevV st := by cases st <;> rfl
theorem unev_bound (T M : List Int) (k : Nat) : (0 ≤ uA (unevK (cntI T) (M.take k)) ∧ uA (unevK (cntI T) (M.take k)) ≤ 16) ∧ 0 ≤ uB (unevK (cntI T) (M.take k)) ∧ uB (unevK (cntI T) (M.take k)) ≤ 16 := by
  cases hk : unevK (cntI T) (M.take k) with
  | none => exact ⟨⟨Int.le_refl _, by decide⟩, Int.le_refl _, by decide⟩
  | some q =>
    obtain ⟨a, b⟩ := q
    have := unevK_range (lo := 0) (hi := 16) (st := none) (M := M.take k) (c := cntI T) (fun n _ _ => by unfold cntI; have := ctK_le (whoL T) n 16; omega) (fun a b h => by cases h) a b hk
    exact ⟨⟨by show 0 ≤ a; omega, by show a ≤ 16; omega⟩, by show 0 ≤ b; omega, by show b ≤ 16; omega⟩
theorem unev_not {T M : List Int} {k : Nat} {x : Int} (h : M[k]? = some x) (hn : nodeE x = false) : unevK (cntI T) (M.take (k + 1)) = unevK (cntI T) (M.take k) := by
  rw [unevK_step h]
  unfold unevS
  rw [if_neg (by rw [hn]; simp)]
theorem unev_new {T M : List Int} {k : Nat} {x : Int} (h : M[k]? = some x) (hn : nodeE x = true) (h0 : unevK (cntI T) (M.take k) = none) : unevK (cntI T) (M.take (k + 1)) = some (cntI T x, cntI T x) := by
  rw [unevK_step h, h0]
  unfold unevS
  rw [if_pos hn]
  rfl
theorem unev_more {T M : List Int} {k : Nat} {x a b : Int} (h : M[k]? = some x) (hn : nodeE x = true) (h0 : unevK (cntI T) (M.take k) = some (a, b)) : unevK (cntI T) (M.take (k + 1)) = some (max a (cntI T x), min b (cntI T x)) := by
  rw [unevK_step h, h0]
  unfold unevS
  rw [if_pos hn]
  rfl
theorem rnode_any (n : Int) (w : World) : Gives Tryd.prog 20 #[.int .i64 n] w (.bool (nodeE n)) := by
  unfold Gives
  by_cases q0 : 0 ≤ n <;> by_cases q1 : n < 8
  all_goals try (exfalso; omega)
  all_goals first | (have H : Hid (nodeE n = true) := Lib.hid (by simp [nodeE]; omega)) | (have H : Hid (nodeE n = false) := Lib.hid (by simp [nodeE]; omega))
  all_goals
    go_enter Tryd.func20, Tryd.ntmps20
    go_wp2
    all_goals go_ret
    all_goals exact ⟨by rw [H.out]; rfl, Later.ex (by repeat (first | exact ext_refl _ | refine ext_alloc ?_ _ | refine ext_later ?_ _ | refine ext_drew ?_ | refine ext_drewN ?_ _))⟩
theorem rnode_d (n : Int) : Does Tryd.prog 20 #[.int .i64 n] [] (.bool (nodeE n)) [] := Does.of_any fun w => rnode_any n w
theorem next_ways (T : List Int) (p : Int) : p < 0 ∨ (¬ p < 0 ∧ 16 ≤ p) ∨ (¬ p < 0 ∧ ¬ 16 ≤ p ∧ whoL T p.toNat < 0) ∨ (¬ p < 0 ∧ ¬ 16 ≤ p ∧ ¬ whoL T p.toNat < 0) := by omega
theorem chU_neg {x : Int} (h : x < 0) : chU x = 45 := if_pos h
theorem cnt_form {u : Value} {T : List Int} {L : List At} {H0 : Nat → Prop} {w W : World} (h : Mem (rowT elemI u (cntL T) :: L) H0 w W) : ∃ p c, u = .slice p 8 c ∧ Mem (rowT elemI (.slice p 8 c) (cntL T) :: L) H0 w W := by
  obtain ⟨p, c, e⟩ := rd_form (Mem.row h 0 rfl rowOwn)
  rw [cntL_len] at e
  subst e
  exact ⟨p, c, rfl, h⟩
theorem cnt_formD {u : Value} {T : List Int} {L : List At} {H0 : Nat → Prop} {w W : World} (h : Mem (rdRow u (cntL T) :: L) H0 w W) : ∃ p c, u = .slice p 8 c ∧ Mem (rdRow (.slice p 8 c) (cntL T) :: L) H0 w W := by
  obtain ⟨p, c, e⟩ := rd_form (Mem.row h 0 rfl rdRow_reads)
  rw [cntL_len] at e
  subst e
  exact ⟨p, c, rfl, h⟩
theorem part_ways (T : List Int) (a : Nat) : T.length ≤ a ∨ (a < T.length ∧ ∃ y, T[a]? = some y ∧ nodeE y = false) ∨ (a < T.length ∧ ∃ y, T[a]? = some y ∧ nodeE y = true) := by
  rcases Nat.lt_or_ge a T.length with h | h
  · cases hn : nodeE T[a]
    · exact .inr (.inl ⟨h, T[a], List.getElem?_eq_getElem h, hn⟩)
    · exact .inr (.inr ⟨h, T[a], List.getElem?_eq_getElem h, hn⟩)
  · exact .inl h
/-- Whose each part is, as an array. -/
def own16 (T : List Int) : List Int := (List.range 16).map (whoL T)
theorem own16_len (T : List Int) : (own16 T).length = 16 := by simp [own16]
theorem own16_at {T : List Int} {k : Nat} (h : k < 16) : (own16 T)[k]? = some (whoL T k) := by
  unfold own16
  rw [List.getElem?_map, List.getElem?_range h]
  rfl
theorem whoL_neg {T : List Int} {k : Nat} (h : whoL T k < 0) : whoL T k = -1 := by
  have := whoL_range T k
  omega
theorem chU_num {x : Nat} (h : x < 8) : ((chU (x : Int)).toNat : Int) = 48 + (x : Int) := by
  rw [chU_int (by omega)]
  unfold chO
  rw [if_neg (by omega)]
def uL (st : Option (Int × Int)) : Int := st.elim 16 Prod.snd
theorem unev_more2 {T M : List Int} {k : Nat} {x : Int} (h : M[k]? = some x) (hn : nodeE x = true) : uL (unevK (cntI T) (M.take (k + 1))) = min (uL (unevK (cntI T) (M.take k))) (cntI T x) ∧ uA (unevK (cntI T) (M.take (k + 1))) = max (uA (unevK (cntI T) (M.take k))) (cntI T x) := by
  have hc : 0 ≤ cntI T x ∧ cntI T x ≤ 16 := by
    have := ctK_le (whoL T) x 16
    unfold cntI
    omega
  cases hk : unevK (cntI T) (M.take k) with
  | none =>
    rw [unev_new h hn hk]
    show cntI T x = min 16 (cntI T x) ∧ cntI T x = max 0 (cntI T x)
    omega
  | some q =>
    obtain ⟨a, b⟩ := q
    rw [unev_more h hn hk]
    exact ⟨rfl, rfl⟩
theorem unev_bound2 (T M : List Int) (k : Nat) : 0 ≤ uL (unevK (cntI T) (M.take k)) ∧ uL (unevK (cntI T) (M.take k)) ≤ 16 := by
  cases hk : unevK (cntI T) (M.take k) with
  | none => exact ⟨by decide, Int.le_refl _⟩
  | some q =>
    obtain ⟨a, b⟩ := q
    have := unevK_range (lo := 0) (hi := 16) (st := none) (M := M.take k) (c := cntI T) (fun n _ _ => by unfold cntI; have := ctK_le (whoL T) n 16; omega) (fun a b h => by cases h) a b hk
    exact ⟨by show 0 ≤ b; omega, by show b ≤ 16; omega⟩
theorem unev_end (T M : List Int) : unevI T M = max (uA (unevK (cntI T) M) - uL (unevK (cntI T) M)) 0 := by
  unfold unevI
  cases hk : unevK (cntI T) M with
  | none => rfl
  | some q =>
    obtain ⟨a, b⟩ := q
    have := unevK_range (lo := 0) (hi := 16) (st := none) (M := M) (c := cntI T) (fun n _ _ => by unfold cntI; have := ctK_le (whoL T) n 16; omega) (fun a b h => by cases h) a b hk
    show a - b = max (a - b) 0
    omega
end Go.Proofs.YthibiejneggmoaaDoor
