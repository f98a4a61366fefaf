/- Texts of claims: what each function gives, where the table of the powers of ten lies as its initialiser laid it. -/
import Derived.Test.YtbdhnmjmbbahhaaDoorHealth2
import Derived.Lib.AppendIntMem
import Derived.Lib.ItoaLen
namespace Go.Proofs.YtbdhnmjmbbahhaaDoor
open Go Go.RowKit

def Tab (w : World) : Prop := Lib.TabBelow Tryd.prog w.heap.size w "internal/strconv.uint64pow10" .u64 Lib.pow10Tab
theorem Tab.later {W w' : World} (h : Tab W) (hb : Below W.heap.size W w') : Tab w' := fun w'' h'' => h w'' (hb.trans (h''.mono hb.size))
theorem Tab.of {w : World} (h : Lib.TabIs Tryd.prog w "internal/strconv.uint64pow10" .u64 Lib.pow10Tab) : Tab w := Lib.tabBelow_of_tabIs h
def itoaS (n : Int) : ByteArray := ⟨(Lib.itoa n).toArray⟩
theorem itoaS_size (n : Int) (h0 : 0 ≤ n) (h1 : n ≤ 1000000) : (itoaS n).size ≤ 21 := by
  show (Lib.itoa n).toArray.size ≤ 21
  simpa using Lib.itoa_length_le n (by omega) (by omega)
theorem itoa_any (n : Int) (h0 : 0 ≤ n) (h1 : n ≤ 1000000) (w : World) (ht : Tab w) : Gives Tryd.prog 28 #[.int .i64 n] w (.string (itoaS n)) :=
  gives_grow (Tryd.strconv_Itoa n (by omega) (by omega) w ht.here)

set_option maxHeartbeats 400000 in
theorem withInc_any (s : ByteArray) (i : Int) (hs : s.size ≤ 100) (h0 : 0 ≤ i) (h1 : i ≤ 1000000) (w : World) (ht : Tab w) : Gives Tryd.prog 32 #[.string s, .int .i64 i] w (.string (s ++ ⟨#[64]⟩ ++ itoaS i)) := by
  unfold Gives
  have hz := itoaS_size i h0 h1
  have HT := Lib.hid ht
  clear ht
  go_enter Tryd.func32, Tryd.ntmps32
  go_wp2_with (go_at_call 28; refine Gives.mono' (itoa_any i (by omega) (by omega) _ (HT.out.later (by repeat (first | exact ext_refl _ | refine ext_alloc ?_ _ | refine ext_later ?_ _ | refine ext_drew ?_ | refine ext_drewN ?_ _)))) ?_; intro x)
  go_ret
  exact ⟨rfl, Later.ex (by repeat (first | exact ext_refl _ | refine ext_alloc ?_ _ | refine ext_later ?_ _ | refine ext_drew ?_ | refine ext_drewN ?_ _))⟩

def saidS (i h : Int) : ByteArray := if h = 1 then ⟨#[97, 108, 105, 118, 101]⟩ ++ ⟨#[64]⟩ ++ itoaS i else if h = 2 then ⟨#[115, 117, 115, 112, 101, 99, 116]⟩ ++ ⟨#[64]⟩ ++ itoaS i else if h = 3 then ⟨#[100, 101, 97, 100]⟩ ++ ⟨#[64]⟩ ++ itoaS i else if h = 4 then ⟨#[108, 101, 102, 116]⟩ else ⟨#[45]⟩
def textS (n i h : Int) : ByteArray := if mayB n i h then itoaS n ++ ⟨#[58]⟩ ++ saidS i h else ⟨#[]⟩

set_option maxHeartbeats 400000 in
theorem said_any (n i h : Int) (h0 : 0 ≤ i) (h1 : i ≤ 1000000) (w : World) (ht : Tab w) : Gives Tryd.prog 29 #[.agg #[.int .i64 n, .int .i64 i, .int .i64 h]] w (.string (saidS i h)) := by
  unfold Gives
  have HT := Lib.hid ht
  clear ht
  rcases (show (h = 1) ∨ (h = 2) ∨ (h = 3) ∨ (h = 4) ∨ (h ≠ 1 ∧ h ≠ 2 ∧ h ≠ 3 ∧ h ≠ 4) from by omega) with q | q | q | q | q
  all_goals first | (have HH : Hid (saidS i h = ⟨#[97, 108, 105, 118, 101]⟩ ++ ⟨#[64]⟩ ++ itoaS i) := Lib.hid (by unfold saidS; rw [if_pos (by omega)])) | (have HH : Hid (saidS i h = ⟨#[115, 117, 115, 112, 101, 99, 116]⟩ ++ ⟨#[64]⟩ ++ itoaS i) := Lib.hid (by unfold saidS; rw [if_neg (by omega), if_pos (by omega)])) | (have HH : Hid (saidS i h = ⟨#[100, 101, 97, 100]⟩ ++ ⟨#[64]⟩ ++ itoaS i) := Lib.hid (by unfold saidS; rw [if_neg (by omega), if_neg (by omega), if_pos (by omega)])) | (have HH : Hid (saidS i h = ⟨#[108, 101, 102, 116]⟩) := Lib.hid (by unfold saidS; rw [if_neg (by omega), if_neg (by omega), if_neg (by omega), if_pos (by omega)])) | (have HH : Hid (saidS i h = ⟨#[45]⟩) := Lib.hid (by unfold saidS; rw [if_neg (by omega), if_neg (by omega), if_neg (by omega), if_neg (by omega)]))
  all_goals try (first | (have e1 : ((h : Int) == 1) = true := by first | exact beq_iff_eq.2 (by omega) | (rw [bne_iff_ne]; omega)) | (have e1 : ((h : Int) == 1) = false := by first | exact beq_eq_false_iff_ne.2 (by omega) | exact bne_eq_false_iff_eq.2 (by omega)))
  all_goals try (first | (have e2 : ((h : Int) == 2) = true := by first | exact beq_iff_eq.2 (by omega) | (rw [bne_iff_ne]; omega)) | (have e2 : ((h : Int) == 2) = false := by first | exact beq_eq_false_iff_ne.2 (by omega) | exact bne_eq_false_iff_eq.2 (by omega)))
  all_goals try (first | (have e3 : ((h : Int) == 3) = true := by first | exact beq_iff_eq.2 (by omega) | (rw [bne_iff_ne]; omega)) | (have e3 : ((h : Int) == 3) = false := by first | exact beq_eq_false_iff_ne.2 (by omega) | exact bne_eq_false_iff_eq.2 (by omega)))
  all_goals try (first | (have e4 : ((h : Int) == 4) = true := by first | exact beq_iff_eq.2 (by omega) | (rw [bne_iff_ne]; omega)) | (have e4 : ((h : Int) == 4) = false := by first | exact beq_eq_false_iff_ne.2 (by omega) | exact bne_eq_false_iff_eq.2 (by omega)))
  all_goals clear q
  all_goals
    go_enter Tryd.func29, Tryd.ntmps29
    go_wp2_with (go_at_call 32; refine Gives.mono' (withInc_any _ _ ?z h0 h1 _ (HT.out.later (by repeat (first | exact ext_refl _ | refine ext_alloc ?_ _ | refine ext_later ?_ _ | refine ext_drew ?_ | refine ext_drewN ?_ _)))) ?_; (case z => decide); intro x)
    all_goals (go_ret; exact ⟨by rw [HH.out]; rfl, Later.ex (by repeat (first | exact ext_refl _ | refine ext_alloc ?_ _ | refine ext_later ?_ _ | refine ext_drew ?_ | refine ext_drewN ?_ _))⟩)
end Go.Proofs.YtbdhnmjmbbahhaaDoor
