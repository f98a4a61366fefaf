/- ClmL: RfPeers, ClmA, ClmB, ClmL. -/
import Derived.Test.YthibiejneggmoaaDoorShufMath
import Derived.Test.YthibiejneggmoaaDoorClmMath
import Derived.Test.YthibiejneggmoaaDoorSxInts
import Derived.Test.YthibiejneggmoaaDoorSxBase
import Derived.Test.YthibiejneggmoaaDoorSxCut
import Derived.Laws.Rows
import Derived.StillTailTactics
import Derived.LoopN
namespace Go.Proofs.YthibiejneggmoaaDoor
section
open Go Go.RowKit
def nodeI (n : Int) : Bool := decide (0 ≤ n ∧ n < 8)
set_option maxHeartbeats 400000 in
theorem nodeI_any (n : Int) (w : World) : Gives Tryd.prog 20 #[.int .i64 n] w (.bool (nodeI n)) := by
  unfold Gives
  by_cases q0 : 0 ≤ n <;> by_cases q1 : n < 8
  all_goals try (exfalso; omega)
  all_goals first | (have H : Hid (nodeI n = true) := Lib.hid (by simp [nodeI]; omega)) | (have H : Hid (nodeI n = false) := Lib.hid (by simp [nodeI]; omega))
  all_goals
    go_enter Tryd.func20, Tryd.ntmps20
    go_wp2
    all_goals go_ret
    all_goals exact ⟨by rw [H.out]; rfl, Later.ex (by repeat (first | exact ext_refl _ | refine ext_alloc ?_ _ | refine ext_later ?_ _ | refine ext_drew ?_ | refine ext_drewN ?_ _))⟩
theorem contains_take {l : List Int} {k : Nat} {n x : Int} (hk : l[k]? = some x) : (l.take (k + 1)).contains n = ((l.take k).contains n || (x == n)) := by
  rw [List.take_add_one, hk]
  rw [Bool.eq_iff_iff]
  simp only [List.contains_eq_mem, Option.toList_some, List.mem_append, List.mem_singleton, decide_eq_true_eq, Bool.or_eq_true, beq_iff_eq]
  constructor
  · rintro (h | h)
    · exact .inl h
    · exact .inr h.symm
  · rintro (h | h)
    · exact .inl h
    · exact .inr h.symm
def tabB (f : Nat → Bool) : Array Value := #[.bool (f 0), .bool (f 1), .bool (f 2), .bool (f 3), .bool (f 4), .bool (f 5), .bool (f 6), .bool (f 7)]
theorem tabB_at (f : Nat → Bool) (j : Nat) (hj : j < 8) : (tabB f)[j]? = some (.bool (f j)) := by
  rcases (by omega : j = 0 ∨ j = 1 ∨ j = 2 ∨ j = 3 ∨ j = 4 ∨ j = 5 ∨ j = 6 ∨ j = 7) with rfl | rfl | rfl | rfl | rfl | rfl | rfl | rfl <;> rfl
theorem tabB_set (f : Nat → Bool) (j : Nat) (hj : j < 8) (x : Bool) : (tabB f).setIfInBounds j (.bool x) = tabB (fun i => if i = j then x else f i) := by
  rcases (by omega : j = 0 ∨ j = 1 ∨ j = 2 ∨ j = 3 ∨ j = 4 ∨ j = 5 ∨ j = 6 ∨ j = 7) with rfl | rfl | rfl | rfl | rfl | rfl | rfl | rfl <;> rfl
theorem tabB_congr {f g : Nat → Bool} (e : ∀ j, j < 8 → f j = g j) : tabB f = tabB g := by
  unfold tabB
  rw [e 0 (by omega), e 1 (by omega), e 2 (by omega), e 3 (by omega), e 4 (by omega), e 5 (by omega), e 6 (by omega), e 7 (by omega)]
section
variable {w W : World} {tb : Nat} {f : Nat → Bool}
end
theorem isPeer_up {l : List Int} {k : Nat} {x self : Int} (hk : l[k]? = some x) (j : Nat) : isPeer (l.take (k + 1)) self j = if x = (j : Int) then (isPeer (l.take k) self j || !((j : Int) == self)) else isPeer (l.take k) self j := by
  unfold isPeer
  rw [contains_take hk]
  by_cases e : x = (j : Int)
  · rw [if_pos e]
    have : (x == (j : Int)) = true := by simpa using e
    rw [this]
    cases (List.take k l).contains (j : Int) <;> cases ((j : Int) == self) <;> rfl
  · rw [if_neg e]
    have : (x == (j : Int)) = false := by simpa using e
    rw [this]
    simp
def PeersEnd (l : List Int) (self : Int) (w : World) (e : Ending) (w' : World) : Prop := ∃ u, e = .returned u ∧ MadeI w w' u (peersOf l self)
end
section
open Go Go.RowKit Go.BigFrame
theorem atL_out {l : List Int} {k : Nat} (h : l.length ≤ k) : atL l k = -1 := by
  unfold atL
  rw [List.getD_eq_getElem?_getD, List.getElem?_eq_none h]
  rfl
def diffK (x y : List Int) (k : Nat) : Nat := (List.range k).countP fun p => atL x p != atL y p
theorem diffK_succ (x y : List Int) (k : Nat) : diffK x y (k + 1) = diffK x y k + (if (atL x k != atL y k) = true then 1 else 0) := by
  unfold diffK
  rw [List.range_succ, List.countP_append]
  simp [List.countP_cons]
theorem diffK_le (x y : List Int) (k : Nat) : diffK x y k ≤ k := by
  unfold diffK
  have := List.countP_le_length (p := fun p => atL x p != atL y p) (l := List.range k)
  rwa [List.length_range] at this
set_option maxHeartbeats 4000000 in
set_option maxRecDepth 100000 in
theorem rat_d (R : At) (v : Value) (l : List Int) (k : Nat) (hR : ∀ W H, R.p W H → RowAt elemI W v l) : Does Tryd.prog 22 #[v, .int .i64 (k : Int)] [R] (.int .i64 (atL l k)) [R] := by
  intro w H hp
  have HM0 := Lib.hid (mem_refl hp)
  clear hp
  obtain ⟨p, cap, rfl, -⟩ := (HM0.out.row 0 rfl hR).form
  go_enter Tryd.func22, Tryd.ntmps22
  refine wp_seq ?_
  refine wp_region_N [(0, 1)] (by kernel_rfl) ?_
  refine wpS_this [0] rfl (by kernel_rfl) (by simp only [pickL, nthL, List.cons_append, List.nil_append]; rfl) ?_
  repeat (go_big_quiet_step (fail))
  refine wpQuiet_nil ?_
  refine wpS_nil ?_
  refine then_normal ?_
  refine wp_seq ?_
  refine wp_seq ?_
  by_cases hk : k < l.length
  · obtain ⟨y, hy⟩ : ∃ y, l[k]? = some y := ⟨_, List.getElem?_eq_getElem hk⟩
    have hat : Hid (atL l k = y) := Lib.hid (atL_of hy)
    have g1 : decide ((k : Int) < (l.length : Int)) = true := decide_eq_true (by omega)
    refine wp_region_N [(0, 1), (1, 1), (2, 1), (3, 1)] (by kernel_rfl) ?_
    refine wpS_this [0, 1, 2, 3] rfl (by kernel_rfl) (by simp only [pickL, nthL, List.cons_append, List.nil_append]; rfl) ?_
    repeat (go_big_quiet_step (fail))
    refine wpQuiet_nil ?_
    refine wpS_nil ?_
    refine then_normal ?_
    refine wp_cond_true rfl ?_
    refine wp_seq ?_
    refine wp_region_N [(0, 1), (1, 1), (2, 1), (3, 1), (4, 1)] (by kernel_rfl) ?_
    refine wpS_this [0, 1] rfl (by kernel_rfl) (by simp only [pickL, nthL, List.cons_append, List.nil_append]; rfl) ?_
    repeat (go_big_quiet_step (fail))
    refine wpQuiet_nil ?_
    refine wpS_index (E := elemI) (i := 2) (d := some 11) rfl (by rfl) rfl rfl rfl (HM0.out.row 0 rfl hR) (hy) rfl ?_
    intro eb1 eo2 hc3
    simp only [Act.put, List.setIfInBounds_toArray, List.set_cons_succ, List.set_cons_zero]
    refine wpS_load1 (i := 3) (d := some 12) (u := .int .i64 y) rfl (by rfl) rfl rfl (hc3 0 _ rfl) Tryd.underlying3 rfl rfl ?_
    simp only [Act.put, List.setIfInBounds_toArray, List.set_cons_succ, List.set_cons_zero]
    refine wpS_this [4] rfl (by kernel_rfl) (by simp only [pickL, nthL, List.cons_append, List.nil_append]; rfl) ?_
    repeat (go_big_quiet_step (fail))
    refine wpQuiet_nil ?_
    refine wpS_nil ?_
    refine then_normal ?_
    refine wp_ret ?_
    refine then_ret ?_
    refine bodyPost_ret (results_tmp rfl _ _ _) rfl ?_
    rw [hat.out]
    exact does_ret (Mem.only (M := [_]) HM0.out [0] rfl) rfl rfl
  · have hat : Hid (atL l k = -1) := Lib.hid (atL_out (by omega))
    have g1 : decide ((k : Int) < (l.length : Int)) = false := decide_eq_false (by omega)
    refine wp_region_N [(0, 1), (1, 1), (2, 1), (3, 1)] (by kernel_rfl) ?_
    refine wpS_this [0, 1, 2, 3] rfl (by kernel_rfl) (by simp only [pickL, nthL, List.cons_append, List.nil_append]; rfl) ?_
    repeat (go_big_quiet_step (fail))
    refine wpQuiet_nil ?_
    refine wpS_nil ?_
    refine then_normal ?_
    refine wp_cond_false rfl ?_
    refine wp_skip ?_
    refine then_normal ?_
    refine wp_seq ?_
    refine wp_region_N [(0, 1)] (by kernel_rfl) ?_
    refine wpS_this [0] rfl (by kernel_rfl) (by simp only [pickL, nthL, List.cons_append, List.nil_append]; rfl) ?_
    repeat (go_big_quiet_step (fail))
    refine wpQuiet_nil ?_
    refine wpS_nil ?_
    refine then_normal ?_
    refine wp_ret ?_
    refine bodyPost_ret (results_tmp rfl _ _ _) rfl ?_
    rw [hat.out]
    exact does_ret (Mem.only (M := [_]) HM0.out [0] rfl) rfl rfl
end
section
open Go Go.RowKit Go.BigFrame
theorem row_zeroE {W : World} {e : TypeId} {size n base : Nat} {v : Value} {xs : List Value} (h : W.ownsRow base e size v n xs) : W.ownsRow 0 e size v n xs := by
  refine ⟨h.1, ?_⟩
  rcases h.2 with h2 | ⟨g, cap, cur, rfl, _, rest⟩
  · exact .inl h2
  · exact .inr ⟨g, cap, cur, rfl, Nat.zero_le _, rest⟩
theorem peersF_nodup (f : Nat → Bool) (k : Nat) : (peersF f k).Nodup := by
  unfold peersF
  rw [List.Nodup, List.pairwise_map]
  refine List.Pairwise.sublist List.filter_sublist ?_
  exact List.Pairwise.imp (fun {a b} h => by omega) List.nodup_range
theorem peersOf_nodup (l : List Int) (self : Int) : (peersOf l self).Nodup := peersF_nodup _ _
theorem peersOf_mem {l : List Int} {self x : Int} : x ∈ peersOf l self ↔ (0 ≤ x ∧ x < 8) ∧ x ∈ l ∧ x ≠ self := by
  unfold peersOf peersF isPeer
  simp only [List.mem_map, List.mem_filter, List.mem_range, Bool.and_eq_true, List.contains_eq_mem, decide_eq_true_eq, Bool.not_eq_true', beq_eq_false_iff_ne, ne_eq]
  constructor
  · rintro ⟨j, ⟨hj, h1, h2⟩, rfl⟩
    exact ⟨⟨by omega, by omega⟩, h1, h2⟩
  · rintro ⟨⟨h0, h8⟩, h1, h2⟩
    exact ⟨x.toNat, ⟨by omega, by rw [show ((x.toNat : Nat) : Int) = x from by omega]; exact h1, by rw [show ((x.toNat : Nat) : Int) = x from by omega]; exact h2⟩, by omega⟩
theorem cellsI_elem : ∀ l : List Int, cellsI l = elemI.cells l
  | [] => rfl
  | x :: l => by rw [Elem.cells_cons, ← cellsI_elem l]; rfl
theorem SEnd.madeI {P : Asn} {H0 : Nat → Prop} {w W W' : World} {u : Value} {l : List Int} (hP : Owns P) (h : SEnd P H0 w W) (hm : MadeI W W' u l) : SEnd (star (rowT elemI u l).p P) H0 w W' := by
  obtain ⟨hr, hb⟩ := hm
  rw [cellsI_elem] at hr
  exact SEnd.fresh (HQ := fun k => u.ownBlock = some k) hP (rowT elemI u l).owns h hb ⟨row_zeroE hr, fun _ => .rfl⟩ fun k hk => (hr.lt k hk).1
theorem ints_rowAt {W : World} {v : Value} {l : List Int} (h : RowAt elemI W v l) : IntsAt W v l := by
  rcases h with ⟨h1, h2⟩ | ⟨b, o, cap, hv, hlt, hc⟩
  · exact .inl ⟨h1, h2⟩
  · refine .inr ⟨b, o, cap, hv, hlt, fun k x hk => ?_⟩
    have := hc k x hk 0 (.int .i64 x) rfl
    rwa [show o + k * elemI.k + 0 = o + k from by show o + k * 1 + 0 = o + k; omega] at this
theorem peersOf_len8 (l : List Int) (self : Int) : (peersOf l self).length ≤ 8 := peersF_len _ 8
theorem peersOf_ok (l : List Int) (self : Int) : MemOk (peersOf l self) where
  nodup := peersOf_nodup l self
  node n hn := by
    unfold peersOf peersF at hn
    obtain ⟨j, hj, rfl⟩ := List.mem_map.1 hn
    have := List.mem_range.1 (List.mem_filter.1 hj).1
    omega
theorem bigsK_succ {now M : List Int} {k : Nat} {m : Int} (h : M[k]? = some m) : bigsK now M (k + 1) = bigsK now M k + (if bigB now (16 / M.length) m = true then 1 else 0) := countP_take h
theorem smallsK_succ {now M : List Int} {k : Nat} {m : Int} (h : M[k]? = some m) : smallsK now M (k + 1) = smallsK now M k + (if bigB now (16 / M.length) m = true then 0 else 1) := by
  have := countP_take (f := fun n => !bigB now (16 / M.length) n) h
  unfold smallsK
  rw [this]
  cases bigB now (16 / M.length) m <;> rfl
/-- Quotas, in a block of their own. -/
def quotaT (now M : List Int) (u : Value) : At := exT fun b => [prT (u = .slice (some ⟨b, 0, none⟩) M.length M.length), intsT b (quotasOf now M)]
theorem set_same {l : List Int} {k : Nat} {x : Int} (h : l[k]? = some x) : l.set k x = l := by
  obtain ⟨hk, e⟩ := List.getElem?_eq_some_iff.1 h
  rw [← e, List.set_getElem_self]
theorem hasK_le (now : List Int) (n : Int) (k : Nat) : hasK now n k ≤ k := by
  unfold hasK
  have := List.countP_le_length (p := fun p => atL now p == n) (l := List.range k)
  rwa [List.length_range] at this
end
section

def tabN (f : Int → Int) : List Int := (List.range 8).map fun j => f (j : Nat)
theorem tabN_len (f : Int → Int) : (tabN f).length = 8 := by simp [tabN]
theorem tabN_at (f : Int → Int) {j : Nat} (h : j < 8) : (tabN f)[j]? = some (f j) := by simp [tabN, h]
theorem tabN_congr {f g : Int → Int} (h : ∀ j : Nat, j < 8 → f j = g j) : tabN f = tabN g := by
  unfold tabN
  exact List.map_congr_left fun j hj => h j (List.mem_range.1 hj)
theorem tabN_set (f : Int → Int) {j : Nat} (h : j < 8) (v : Int) : (tabN f).set j v = tabN (updI f j v) := by
  apply List.ext_getElem?
  intro k
  rw [List.getElem?_set]
  by_cases hk : k < 8
  · rw [tabN_at (updI f j v) hk]
    by_cases e : j = k
    · subst e
      rw [if_pos rfl, if_pos (by rw [tabN_len]; exact h)]
      simp [updI]
    · rw [if_neg e, tabN_at _ hk]
      have : ¬ ((k : Nat) : Int) = j := by omega
      simp [updI, this]
  · rw [List.getElem?_eq_none (l := tabN (updI f j v)) (by rw [tabN_len]; omega), if_neg (by omega), List.getElem?_eq_none (by rw [tabN_len]; omega)]
theorem tabN_out (f : Int → Int) {n : Int} (h : n < 0 ∨ 8 ≤ n) (v : Int) : tabN (updI f n v) = tabN f := tabN_congr fun j hj => by
  have : ¬ (j : Int) = n := by omega
  simp [updI, this]
theorem tabN_zero : tabN (fun _ => 0) = List.replicate 8 0 := rfl
/- Whose each part is now. -/
def ownI (x : Int) : Int := if 0 ≤ x ∧ x < 8 then x else -1
def ownL (now : List Int) : List Int := (List.range 16).map fun p => ownI (atL now p)
def ownK (now : List Int) (k : Nat) : List Int := (ownL now).take k ++ List.replicate (16 - k) 0
theorem ownL_len (now : List Int) : (ownL now).length = 16 := by simp [ownL]
theorem ownL_at (now : List Int) {p : Nat} (h : p < 16) : (ownL now)[p]? = some (ownI (atL now p)) := by simp [ownL, h]
theorem ownK_len (now : List Int) {k : Nat} (h : k ≤ 16) : (ownK now k).length = 16 := by simp [ownK, ownL_len]; omega
theorem ownK_end (now : List Int) : ownK now 16 = ownL now := by
  unfold ownK
  rw [List.take_of_length_le (by rw [ownL_len]; omega)]
  simp
theorem ownK_step (now : List Int) {k : Nat} (h : k < 16) : ownK now (k + 1) = (ownK now k).set k (ownI (atL now k)) := by
  unfold ownK
  have e : List.replicate (16 - k) (0 : Int) = 0 :: List.replicate (16 - (k + 1)) 0 := by rw [show 16 - k = (16 - (k + 1)) + 1 by omega, List.replicate_succ]
  have h1 : ((ownL now).take k).length = k := by rw [List.length_take, ownL_len]; omega
  rw [e, List.take_add_one, ownL_at now h]
  have h2 := set_mid ((ownL now).take k) 0 (ownI (atL now k)) (List.replicate (16 - (k + 1)) 0)
  rw [h1] at h2
  rw [h2]
  simp
theorem ownI_range (x : Int) : ownI x = -1 ∨ (0 ≤ ownI x ∧ ownI x < 8 ∧ ownI x = x) := by
  unfold ownI
  split
  · rename_i h
    exact .inr ⟨h.1, h.2, rfl⟩
  · exact .inl rfl
/- How many parts each has. -/
def cntK (O : List Int) (k : Nat) : Int → Int := fun n => ((O.take k).count n : Nat)
theorem cntK_zero (O : List Int) : tabN (cntK O 0) = List.replicate 8 0 := by
  rw [← tabN_zero]
  exact tabN_congr fun j _ => by simp [cntK]
theorem cntK_miss {O : List Int} {k : Nat} {x : Int} (h : O[k]? = some x) (hx : x < 0 ∨ 8 ≤ x) : tabN (cntK O (k + 1)) = tabN (cntK O k) := tabN_congr fun j hj => by
  unfold cntK
  rw [List.take_add_one, h]
  simp only [Option.toList_some, count_snoc]
  rw [if_neg (by omega), Nat.add_zero]
theorem cntK_hit {O : List Int} {k j : Nat} (h : O[k]? = some (j : Int)) (hj : j < 8) : tabN (cntK O (k + 1)) = (tabN (cntK O k)).set j (cntK O k j + 1) := by
  rw [tabN_set _ hj]
  refine tabN_congr fun i hi => ?_
  unfold cntK updI
  rw [List.take_add_one, h]
  simp only [Option.toList_some, count_snoc]
  by_cases e : (i : Int) = (j : Int)
  · simp [e]
  · rw [if_neg (by omega), if_neg e, Nat.add_zero]
theorem cntK_range (O : List Int) (k : Nat) (n : Int) : 0 ≤ cntK O k n ∧ cntK O k n ≤ k := by
  unfold cntK
  refine ⟨Int.natCast_nonneg _, ?_⟩
  have h1 := List.count_le_length (a := n) (l := O.take k)
  rw [List.length_take] at h1
  exact_mod_cast (by omega : (O.take k).count n ≤ k)
theorem own_count (now : List Int) {n : Int} (h : 0 ≤ n ∧ n < 8) : cntK (ownL now) 16 n = (hasK now n 16 : Int) := by
  unfold cntK hasK
  rw [List.take_of_length_le (by rw [ownL_len]; omega)]
  congr 1
  unfold ownL List.count
  rw [List.countP_map]
  refine List.countP_congr fun p _ => ?_
  simp only [Function.comp_apply, beq_iff_eq]
  unfold ownI
  constructor
  · intro e
    split at e
    · exact e
    · omega
  · intro e
    rw [e, if_pos h]
/- Who lacks most. -/
def needK (L : Int → Int) : Nat → Int × Int
  | 0 => (-1, 0)
  | k + 1 => if (needK L k).2 < L (k : Nat) then ((k : Nat), L (k : Nat)) else needK L k
def needI (L : Int → Int) : Int := (needK L 8).1
def nodesK (k : Nat) : List Int := (List.range k).map fun j => ((j : Nat) : Int)
theorem nodesK_succ (k : Nat) : nodesK (k + 1) = nodesK k ++ [(k : Int)] := by simp [nodesK, List.range_succ]
theorem need_best (L : Int → Int) : ∀ k, (-1 ≤ (needK L k).1 ∧ (needK L k).1 < k) ∧ 0 ≤ (needK L k).2 ∧ ((needK L k).1 = -1 → (needK L k).2 = 0 ∧ bestI L (fun _ => true) none (nodesK k) = none) ∧ ((needK L k).1 ≠ -1 → (needK L k).2 = L (needK L k).1 ∧ bestI L (fun _ => true) none (nodesK k) = some (needK L k).1)
  | 0 => ⟨⟨by simp [needK], by simp [needK]⟩, by simp [needK], fun _ => ⟨rfl, rfl⟩, fun h => by simp [needK] at h⟩
  | k + 1 => by
    obtain ⟨⟨h1, h2⟩, h3, h4, h5⟩ := need_best L k
    rw [nodesK_succ, bestI_snoc]
    unfold needK
    by_cases hc : (needK L k).2 < L (k : Nat)
    · rw [if_pos hc]
      refine ⟨⟨by dsimp only; omega, by dsimp only; omega⟩, by dsimp only; omega, fun h => by dsimp only at h; omega, fun _ => ⟨rfl, ?_⟩⟩
      dsimp only
      rw [if_pos]
      refine ⟨by omega, rfl, fun x hx => ?_⟩
      by_cases e : (needK L k).1 = -1
      · rw [(h4 e).2] at hx
        simp at hx
      · rw [(h5 e).2] at hx
        obtain rfl := Option.some.inj hx
        rw [← (h5 e).1]
        exact hc
    · rw [if_neg hc]
      refine ⟨⟨h1, by omega⟩, h3, fun e => ⟨(h4 e).1, ?_⟩, fun e => ⟨(h5 e).1, ?_⟩⟩
      · rw [if_neg, (h4 e).2]
        rintro ⟨h6, _, _⟩
        have := (h4 e).1
        omega
      · rw [if_neg, (h5 e).2]
        rintro ⟨_, _, h6⟩
        have := h6 _ (h5 e).2
        rw [← (h5 e).1] at this
        exact hc this
theorem need_eq (L : Int → Int) : needI L = (bestI L (fun _ => true) none (nodesK 8)).getD (-1) := by
  obtain ⟨_, _, h4, h5⟩ := need_best L 8
  unfold needI
  by_cases e : (needK L 8).1 = -1
  · rw [(h4 e).2, e]
    rfl
  · rw [(h5 e).2]
    rfl
theorem need_range (L : Int → Int) : -1 ≤ needI L ∧ needI L < 8 := (need_best L 8).1
theorem bestI_sub {L L' : Int → Int} {f f' p : Int → Bool} : ∀ {l : List Int} {b : Option Int}, (∀ n ∈ l, (0 < L' n ∧ f' n = true) ↔ (p n = true ∧ 0 < L n ∧ f n = true)) → (∀ n ∈ l, 0 < L' n ∧ f' n = true → L' n = L n) → (∀ x, b = some x → L' x = L x) → bestI L' f' b l = bestI L f b (l.filter p)
  | [], _, _, _, _ => rfl
  | n :: l, b, h1, h2, h3 => by
    have ih : ∀ b, (∀ x, b = some x → L' x = L x) → bestI L' f' b l = bestI L f b (l.filter p) := fun b hb => bestI_sub (fun n hn => h1 n (List.mem_cons_of_mem _ hn)) (fun n hn => h2 n (List.mem_cons_of_mem _ hn)) hb
    have hn := h1 n List.mem_cons_self
    rw [List.filter_cons]
    by_cases hc : 0 < L' n ∧ f' n = true ∧ ∀ x, b = some x → L' x < L' n
    · have e := h2 n List.mem_cons_self ⟨hc.1, hc.2.1⟩
      obtain ⟨hp, h4, h5⟩ := hn.1 ⟨hc.1, hc.2.1⟩
      rw [if_pos hp]
      unfold bestI
      rw [if_pos hc, if_pos ⟨h4, h5, fun x hx => by rw [← h3 x hx, ← e]; exact hc.2.2 x hx⟩]
      exact ih _ fun x hx => by obtain rfl := Option.some.inj hx; exact e
    · by_cases hp : p n = true
      · rw [if_pos hp]
        unfold bestI
        rw [if_neg hc, if_neg]
        · exact ih b h3
        · rintro ⟨h4, h5, h6⟩
          have h7 := hn.2 ⟨hp, h4, h5⟩
          have e := h2 n List.mem_cons_self h7
          exact hc ⟨h7.1, h7.2, fun x hx => by rw [h3 x hx, e]; exact h6 x hx⟩
      · rw [if_neg hp]
        show bestI L' f' (if 0 < L' n ∧ f' n = true ∧ (∀ x, b = some x → L' x < L' n) then some n else b) l = _
        rw [if_neg hc]
        exact ih b h3
/- Members in ascending order. -/
def Asc (M : List Int) : Prop := M = (nodesK 8).filter fun n => M.contains n
def offM (M : List Int) (L : Int → Int) : Int → Int := fun n => if M.contains n = true then L n else 0
theorem off_in {M : List Int} (L : Int → Int) {n : Int} (h : n ∈ M) : offM M L n = L n := by simp [offM, h]
theorem off_out {M : List Int} (L : Int → Int) {n : Int} (h : n ∉ M) : offM M L n = 0 := by simp [offM, h]
theorem off_upd {M : List Int} (L : Int → Int) {n : Int} (h : n ∈ M) (v : Int) : updI (offM M L) n v = offM M (updI L n v) := by
  funext x
  unfold updI offM
  by_cases e : x = n
  · subst e
    simp [h]
  · simp [e]
def takeI (L : Int → Int) (a b : Int) : Int := if needI (updI (updI L a 0) b 0) ≠ -1 then needI (updI (updI L a 0) b 0) else needI L
theorem take_pick {M : List Int} (hA : Asc M) (hok : MemOk M) (L : Int → Int) (a b : Int) : takeI (offM M L) a b = (pickI M L a b).getD (-1) := by
  have e1 : bestI (updI (updI (offM M L) a 0) b 0) (fun _ => true) none (nodesK 8) = bestI L (fun n => n != a && n != b) none M := by
    conv => rhs; rw [hA]
    refine bestI_sub (fun n _ => ?_) (fun n _ h => ?_) (fun x hx => by simp at hx)
    · unfold updI offM
      by_cases h1 : n = b
      · simp [h1]
      · by_cases h2 : n = a
        · simp [h2]
        · by_cases h3 : M.contains n = true
          · rw [if_neg h1, if_neg h2, if_pos h3]
            have h3' : n ∈ M := by simpa using h3
            simp [h1, h2, h3']
          · rw [if_neg h1, if_neg h2, if_neg h3]
            simp only [Int.lt_irrefl, false_and, false_iff]
            rintro ⟨h4, _⟩
            exact h3 h4
    · unfold updI offM at h ⊢
      by_cases h1 : n = b
      · simp [h1] at h
      · by_cases h2 : n = a
        · simp [h2] at h
        · by_cases h3 : M.contains n = true
          · rw [if_neg h1, if_neg h2, if_pos h3]
          · rw [if_neg h1, if_neg h2, if_neg h3] at h
            exact absurd h.1 (by omega)
  have e2 : bestI (offM M L) (fun _ => true) none (nodesK 8) = bestI L (fun _ => true) none M := by
    conv => rhs; rw [hA]
    refine bestI_sub (fun n _ => ?_) (fun n _ h => ?_) (fun x hx => by simp at hx)
    · unfold offM
      by_cases h3 : M.contains n = true
      · rw [if_pos h3]
        have h3' : n ∈ M := by simpa using h3
        simp [h3']
      · rw [if_neg h3]
        simp only [Int.lt_irrefl, false_and, false_iff]
        rintro ⟨h4, _⟩
        exact h3 h4
    · unfold offM at h ⊢
      by_cases h3 : M.contains n = true
      · rw [if_pos h3]
      · rw [if_neg h3] at h
        exact absurd h.1 (by omega)
  unfold takeI
  rw [need_eq, need_eq, e1, e2]
  unfold pickI
  cases hb : bestI L (fun n => n != a && n != b) none M with
  | none => simp
  | some x =>
    have hx : x ∈ M := by
      rcases bestI_some hb with h | h
      · simp at h
      · exact h.1
    have := hok.ne x hx
    simp [this]
/- What is kept. -/
theorem keep_off (now M : List Int) (Q : Int → Int) : ∀ k, keepK now M (offM M Q) k = ((keepK now M Q k).1, offM M (keepK now M Q k).2)
  | 0 => rfl
  | k + 1 => by
    unfold keepK
    rw [keep_off now M Q k]
    dsimp only
    by_cases h : M.contains (atL now k) = true
    · have hm : atL now k ∈ M := by simpa using h
      have e := off_in (keepK now M Q k).2 hm
      by_cases h2 : 0 < (keepK now M Q k).2 (atL now k)
      · rw [if_pos ⟨h, by rw [e]; exact h2⟩, if_pos ⟨h, h2⟩, off_upd _ hm, e]
      · rw [if_neg fun x => h2 (by have := x.2; rwa [e] at this), if_neg fun x => h2 x.2]
    · rw [if_neg fun x => h x.1, if_neg fun x => h x.1]
def kL (now M : List Int) (Q : Int → Int) (k : Nat) : List Int := (keepK now M Q k).1 ++ (ownL now).drop k
theorem kL_len (now M : List Int) (Q : Int → Int) {k : Nat} (h : k ≤ 16) : (kL now M Q k).length = 16 := by
  simp [kL, keepK_len, ownL_len]; omega
theorem kL_zero (now M : List Int) (Q : Int → Int) : kL now M Q 0 = ownL now := by simp [kL, keepK]
theorem kL_end (now M : List Int) (Q : Int → Int) : kL now M Q 16 = (keepK now M Q 16).1 := by
  unfold kL
  rw [List.drop_of_length_le (by rw [ownL_len]; omega), List.append_nil]
theorem kL_at (now M : List Int) (Q : Int → Int) {k : Nat} (h : k < 16) : (kL now M Q k)[k]? = some (ownI (atL now k)) := by
  unfold kL
  rw [List.getElem?_append_right (by rw [keepK_len]; omega), keepK_len, Nat.sub_self, List.getElem?_drop, Nat.add_zero, ownL_at now h]
theorem drop_at {l : List Int} {k : Nat} {x : Int} (h : l[k]? = some x) : l.drop k = x :: l.drop (k + 1) := by
  obtain ⟨hk, rfl⟩ := List.getElem?_eq_some_iff.1 h
  exact List.drop_eq_getElem_cons hk
theorem keepK_off {now M : List Int} {Q : Int → Int} (hQ : ∀ n, n ∉ M → Q n = 0) : ∀ k n, n ∉ M → (keepK now M Q k).2 n = 0
  | 0, n, h => hQ n h
  | k + 1, n, h => by
    unfold keepK
    split
    · rename_i hc
      dsimp only
      unfold updI
      rw [if_neg]
      · exact keepK_off hQ k n h
      · rintro rfl
        exact h (by simpa using hc.1)
    · exact keepK_off hQ k n h
theorem keepK_le {now M : List Int} {Q : Int → Int} : ∀ k n, (keepK now M Q k).2 n ≤ Q n
  | 0, _ => Int.le_refl _
  | k + 1, n => by
    unfold keepK
    split
    · dsimp only
      unfold updI
      split
      · rename_i e
        subst e
        have := keepK_le (now := now) (M := M) (Q := Q) k (atL now k)
        omega
      · exact keepK_le k n
    · exact keepK_le k n
/-- A part that is nobody's. -/
theorem kL_none {now M : List Int} {Q : Int → Int} (hok : MemOk M) {k : Nat} (hk : k < 16) (h : ownI (atL now k) = -1) : kL now M Q (k + 1) = kL now M Q k ∧ (keepK now M Q (k + 1)).2 = (keepK now M Q k).2 := by
  have hn : ¬ M.contains (atL now k) = true := by
    intro hc
    have h1 := hok.node _ (by simpa using hc)
    rw [ownI, if_pos h1] at h
    omega
  have e : keepK now M Q (k + 1) = ((keepK now M Q k).1 ++ [-1], (keepK now M Q k).2) := by
    show (if _ then _ else _) = _
    rw [if_neg fun x => hn x.1]
  refine ⟨?_, by rw [e]⟩
  unfold kL
  rw [e, drop_at (ownL_at now hk), h]
  simp
/-- A part that its node keeps. -/
theorem kL_keep {now M : List Int} {Q : Int → Int} (hQ : ∀ n, n ∉ M → Q n = 0) {k : Nat} (hk : k < 16) {x : Int} (hx : ownI (atL now k) = x) (h1 : x ≠ -1) (h2 : 0 < (keepK now M Q k).2 x) : kL now M Q (k + 1) = kL now M Q k ∧ (keepK now M Q (k + 1)).2 = updI (keepK now M Q k).2 x ((keepK now M Q k).2 x - 1) := by
  have hx' : atL now k = x := by
    rcases ownI_range (atL now k) with h | ⟨_, _, h⟩
    · exact absurd (hx.symm.trans h) h1
    · rw [← h, hx]
  have hm : x ∈ M := by
    by_cases hm : x ∈ M
    · exact hm
    · rw [keepK_off hQ k x hm] at h2
      omega
  have e : keepK now M Q (k + 1) = ((keepK now M Q k).1 ++ [x], updI (keepK now M Q k).2 x ((keepK now M Q k).2 x - 1)) := by
    show (if _ then _ else _) = _
    rw [hx', if_pos ⟨by simpa using hm, h2⟩]
  refine ⟨?_, by rw [e]⟩
  unfold kL
  rw [e, drop_at (ownL_at now hk), hx]
  simp
/-- A part that its node does not keep. -/
theorem kL_drop {now M : List Int} {Q : Int → Int} {k : Nat} (hk : k < 16) {x : Int} (hx : ownI (atL now k) = x) (h1 : x ≠ -1) (h2 : ¬ 0 < (keepK now M Q k).2 x) : kL now M Q (k + 1) = (kL now M Q k).set k (-1) ∧ (keepK now M Q (k + 1)).2 = (keepK now M Q k).2 := by
  have hx' : atL now k = x := by
    rcases ownI_range (atL now k) with h | ⟨_, _, h⟩
    · exact absurd (hx.symm.trans h) h1
    · rw [← h, hx]
  have e : keepK now M Q (k + 1) = ((keepK now M Q k).1 ++ [-1], (keepK now M Q k).2) := by
    show (if _ then _ else _) = _
    rw [hx', if_neg fun x => h2 x.2]
  refine ⟨?_, by rw [e]⟩
  unfold kL
  rw [e, drop_at (ownL_at now hk), hx]
  have := set_mid (keepK now M Q k).1 x (-1) ((ownL now).drop (k + 1))
  rw [keepK_len] at this
  rw [this]
  simp
/- Quotas, over a table. -/
def f0 (now M : List Int) (k : Nat) : Int → Int := offM M fun n => if (M.take k).contains n = true ∧ bigB now (16 / M.length) n = true then quotaOf now M n else ((16 / M.length : Nat) : Int)
def f1 (now M : List Int) (k : Nat) : Int → Int := offM M fun n => if bigB now (16 / M.length) n = true ∨ (M.take k).contains n = true then quotaOf now M n else ((16 / M.length : Nat) : Int)
def fE (M : List Int) (k : Nat) : Int → Int := fun n => if (M.take k).contains n = true then ((16 / M.length : Nat) : Int) else 0
theorem fE_zero (M : List Int) : tabN (fE M 0) = List.replicate 8 0 := by
  rw [← tabN_zero]
  exact tabN_congr fun j _ => by simp [fE]
theorem fE_step {M : List Int} {k j : Nat} (h : M[k]? = some (j : Int)) (hj : j < 8) : tabN (fE M (k + 1)) = (tabN (fE M k)).set j ((16 / M.length : Nat) : Int) := by
  rw [tabN_set _ hj]
  refine tabN_congr fun i _ => ?_
  unfold fE updI
  rw [contains_take h]
  by_cases e : (i : Int) = (j : Int)
  · simp [e]
  · have e' : ((j : Int) == (i : Int)) = false := beq_eq_false_iff_ne.2 fun x => e x.symm
    rw [if_neg e, e', Bool.or_false]
theorem fE_end (now M : List Int) : fE M M.length = f0 now M 0 := by
  funext n
  unfold fE f0 offM
  rw [List.take_length]
  simp
theorem f0_end (now M : List Int) : f0 now M M.length = f1 now M 0 := by
  funext n
  unfold f0 f1 offM
  rw [List.take_length]
  by_cases h : M.contains n = true
  · simp only [h, if_true, true_and, List.take_zero, List.contains_nil]
    simp
  · rw [if_neg h, if_neg h]
theorem f1_end (now M : List Int) : f1 now M M.length = offM M (quotaOf now M) := by
  funext n
  unfold f1 offM
  rw [List.take_length]
  by_cases h : M.contains n = true
  · rw [if_pos h, if_pos h]
    exact if_pos (Or.inr h)
  · rw [if_neg h, if_neg h]
theorem not_take {M : List Int} (hn : M.Nodup) {k : Nat} {m : Int} (h : M[k]? = some m) : (M.take k).contains m = false := by
  have := hit_not hn (fun _ => 1) h
  unfold hitB at this
  simpa using this
theorem f0_at {now M : List Int} (hn : M.Nodup) {k : Nat} {m : Int} (h : M[k]? = some m) : f0 now M k m = ((16 / M.length : Nat) : Int) := by
  unfold f0
  rw [off_in _ (List.mem_of_getElem? h), not_take hn h]
  simp
theorem f1_at {now M : List Int} (hn : M.Nodup) {k : Nat} {m : Int} (h : M[k]? = some m) (hb : bigB now (16 / M.length) m = false) : f1 now M k m = ((16 / M.length : Nat) : Int) := by
  unfold f1
  rw [off_in _ (List.mem_of_getElem? h), not_take hn h, hb]
  simp
theorem quota_big {now M : List Int} (hn : M.Nodup) {k : Nat} {m : Int} (h : M[k]? = some m) (hb : bigB now (16 / M.length) m = true) : quotaOf now M m = ((16 / M.length : Nat) : Int) + (if bigsK now M k < 16 % M.length then 1 else 0) := by
  have hq := quota_at (now := now) hn h
  simp only [hb, if_true] at hq
  exact hq
theorem quota_small {now M : List Int} (hn : M.Nodup) {k : Nat} {m : Int} (h : M[k]? = some m) (hb : bigB now (16 / M.length) m = false) : quotaOf now M m = ((16 / M.length : Nat) : Int) + (if bigsK now M M.length + smallsK now M k < 16 % M.length then 1 else 0) := by
  have hq := quota_at (now := now) hn h
  simp only [hb, Bool.false_eq_true, if_false] at hq
  exact hq
theorem f0_give {now M : List Int} (hok : MemOk M) {k j : Nat} (h : M[k]? = some (j : Int)) (hb : bigB now (16 / M.length) j = true) (he : bigsK now M k < 16 % M.length) : tabN (f0 now M (k + 1)) = (tabN (f0 now M k)).set j (((16 / M.length : Nat) : Int) + 1) := by
  have hj := hok.node _ (List.mem_of_getElem? h)
  have hq := quota_big hok.nodup h hb
  rw [tabN_set _ (by omega)]
  refine tabN_congr fun i _ => ?_
  unfold updI
  by_cases e : (i : Int) = (j : Int)
  · rw [if_pos e, e]
    unfold f0
    rw [off_in _ (List.mem_of_getElem? h), contains_take h]
    simp only [beq_self_eq_true, Bool.or_true, true_and, hb, if_true]
    rw [hq]
    simp [he]
  · rw [if_neg e]
    unfold f0 offM
    dsimp only
    rw [contains_take h]
    have e' : ((j : Int) == (i : Int)) = false := beq_eq_false_iff_ne.2 fun x => e x.symm
    rw [e', Bool.or_false]
theorem f0_not {now M : List Int} (hok : MemOk M) {k : Nat} {m : Int} (h : M[k]? = some m) (hb : ¬ (bigB now (16 / M.length) m = true ∧ bigsK now M k < 16 % M.length)) : tabN (f0 now M (k + 1)) = tabN (f0 now M k) := by
  refine tabN_congr fun i _ => ?_
  by_cases e : (i : Int) = m
  · have h2 := f0_at (now := now) hok.nodup h
    rw [← e] at h2 h
    rw [h2]
    unfold f0
    rw [off_in _ (List.mem_of_getElem? h)]
    by_cases hbb : bigB now (16 / M.length) i = true
    · rw [← e] at hb
      have hq := quota_big hok.nodup h hbb
      have : ¬ bigsK now M k < 16 % M.length := fun x => hb ⟨hbb, x⟩
      rw [if_neg this] at hq
      split
      · rw [hq]; simp
      · rfl
    · rw [if_neg fun x => hbb x.2]
  · unfold f0 offM
    dsimp only
    rw [contains_take h]
    have e' : (m == (i : Int)) = false := beq_eq_false_iff_ne.2 fun x => e x.symm
    rw [e', Bool.or_false]
theorem f1_give {now M : List Int} (hok : MemOk M) {k j : Nat} (h : M[k]? = some (j : Int)) (hb : bigB now (16 / M.length) j = false) (he : bigsK now M M.length + smallsK now M k < 16 % M.length) : tabN (f1 now M (k + 1)) = (tabN (f1 now M k)).set j (((16 / M.length : Nat) : Int) + 1) := by
  have hj := hok.node _ (List.mem_of_getElem? h)
  have hq := quota_small hok.nodup h hb
  rw [tabN_set _ (by omega)]
  refine tabN_congr fun i _ => ?_
  unfold updI
  by_cases e : (i : Int) = (j : Int)
  · rw [if_pos e, e]
    unfold f1
    rw [off_in _ (List.mem_of_getElem? h), contains_take h]
    simp only [beq_self_eq_true, Bool.or_true, or_true, if_true]
    rw [hq]
    simp [he]
  · rw [if_neg e]
    unfold f1 offM
    dsimp only
    rw [contains_take h]
    have e' : ((j : Int) == (i : Int)) = false := beq_eq_false_iff_ne.2 fun x => e x.symm
    rw [e', Bool.or_false]
theorem f1_not {now M : List Int} (hok : MemOk M) {k : Nat} {m : Int} (h : M[k]? = some m) (hb : ¬ (bigB now (16 / M.length) m = false ∧ bigsK now M M.length + smallsK now M k < 16 % M.length)) : tabN (f1 now M (k + 1)) = tabN (f1 now M k) := by
  refine tabN_congr fun i _ => ?_
  by_cases e : (i : Int) = m
  · rw [← e] at h hb
    unfold f1
    rw [off_in _ (List.mem_of_getElem? h), off_in _ (List.mem_of_getElem? h)]
    by_cases hbb : bigB now (16 / M.length) i = true
    · rw [if_pos (.inl hbb), if_pos (.inl hbb)]
    · have hbf : bigB now (16 / M.length) i = false := by simpa using hbb
      have : ¬ (bigsK now M M.length + smallsK now M k < 16 % M.length) := fun x => hb ⟨hbf, x⟩
      have hq := quota_small hok.nodup h hbf
      rw [if_neg this] at hq
      rw [hbf, not_take hok.nodup h]
      simp only [Bool.false_eq_true, false_or, if_false]
      split
      · rw [hq]; simp
      · rfl
  · unfold f1 offM
    dsimp only
    rw [contains_take h]
    have e' : (m == (i : Int)) = false := beq_eq_false_iff_ne.2 fun x => e x.symm
    rw [e', Bool.or_false]
end
end Go.Proofs.YthibiejneggmoaaDoor
