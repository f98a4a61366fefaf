/- A detector, without any program: what it holds, what each call answers. -/
import Derived.Test.YtjbihgfdgaiecaaGreatPC
import Derived.Test.YtjbihgfdgaiecaaGreatPD
import Derived.Test.YtjbihgfdgaiecaaGreatPK
import Derived.Test.YtjbihgfdgaiecaaGreatPB
import Derived.Test.YtjbihgfdgaiecaaGreatPA
import Derived.BigRegion
import Derived.RegionTactic
import Derived.LoopTactic
import Derived.Laws.Cells
namespace Go.Proofs.YtjbihgfdgaiecaaGreat
open Go Go.RowKit
/- The queue: sorted by how often each claim was told, and by node. -/
def insT (t : Td) : List Td → List Td
 | [] => [t]
 | x :: l => if lessT t x then t :: x :: l else x :: insT t l
def srtT (L : List Td) : List Td := L.foldr insT []
def SortedT (L : List Td) : Prop := L.Pairwise Td.lt
theorem insT_perm (t : Td) : ∀ L : List Td, (insT t L).Perm (t :: L)
 | [] => List.Perm.refl _
 | x :: l => by
  unfold insT
  split
  ·exact List.Perm.refl _
  ·exact ((insT_perm t l).cons x).trans (List.Perm.swap t x l)
theorem srtT_perm : ∀ L : List Td, (srtT L).Perm L
 | [] => List.Perm.refl _
 | x :: l => (insT_perm x (srtT l)).trans ((srtT_perm l).cons x)
theorem insT_sorted (t : Td) : ∀ {L : List Td}, SortedT L → (∀ x ∈ L, x.c.n ≠ t.c.n) → SortedT (insT t L)
 | [], _, _ => List.pairwise_singleton _ _
 | x :: l, h, hn => by
  have hx := List.pairwise_cons.1 h
  unfold insT
  split
  ·rename_i hlt
   have hlt' : t.lt x := by simpa [lessT] using hlt
   refine List.pairwise_cons.2 ⟨fun y hy => ?_, h⟩
   rcases List.mem_cons.1 hy with rfl | hy
   ·exact hlt'
   ·exact Td.lt_trans hlt' (hx.1 y hy)
  ·rename_i hlt
   have hxt : x.lt t := Td.lt_total (by simpa [lessT] using hlt) fun e => hn x List.mem_cons_self e.symm
   refine List.pairwise_cons.2 ⟨fun y hy => ?_, insT_sorted t hx.2 fun y hy => hn y (List.mem_cons_of_mem _ hy)⟩
   rcases List.mem_cons.1 ((insT_perm t l).subset hy) with rfl | hy
   ·exact hxt
   ·exact hx.1 y hy
theorem srtT_sorted : ∀ {L : List Td}, Once L → SortedT (srtT L)
 | [], _ => List.Pairwise.nil
 | x :: l, h => by
  have hx := List.pairwise_cons.1 h
  exact insT_sorted x (srtT_sorted hx.2) fun y hy => fun e => hx.1 y ((srtT_perm l).subset hy) e.symm
structure FineQ (L : List Td) : Prop where
 fine : Fine 3 L
 sorted : SortedT L
theorem FineQ.nil : FineQ [] := ⟨Fine.nil (by omega) (by omega), List.Pairwise.nil⟩
theorem FineQ.of {L : List Td} (h : Fine 3 L) : FineQ (srtT L) := ⟨h.perm (srtT_perm L).symm, srtT_sorted h.once⟩
theorem FineQ.len {L : List Td} (h : FineQ L) : L.length ≤ 8 := h.fine.len
def qput (L : List Td) (c : Cl) : List Td := srtT (putOf L c).1
def qcount (L : List Td) : Nat := min 2 L.length
def qout (L : List Td) : List Td := L.take (qcount L)
def qrest (L : List Td) : List Td := srtT (L.drop (qcount L) ++ backOf 3 (qout L))
theorem FineQ.put {L : List Td} (h : FineQ L) (c : Cl) : FineQ (qput L c) := .of (h.fine.put c)
theorem FineQ.picked {L : List Td} (h : FineQ L) (k : Nat) : Picked L (L.take k) (L.drop k) := by
 have hs := h.sorted
 unfold SortedT at hs
 rw [← List.take_append_drop k L, List.pairwise_append] at hs
 exact ⟨by rw [List.take_append_drop], hs.1, hs.2.2⟩
theorem FineQ.rest {L : List Td} (h : FineQ L) : FineQ (qrest L) := .of (h.fine.take (h.picked _) (List.Perm.refl _))
/- What is believed. -/
def VwOk (V : Vw) : Prop := ∀ k, k < 8 → (V k).n = k ∧ (((V k).i = 0 ∧ (V k).h = 0) ∨ ((0 ≤ (V k).i ∧ (V k).i ≤ 1000000) ∧ 1 ≤ (V k).h ∧ (V k).h ≤ 4))
def view0 : Vw := fun k => ⟨k, 0, 0⟩
theorem vwOk_zero : VwOk view0 := fun _ _ => ⟨rfl, .inl ⟨rfl, rfl⟩⟩
structure DS where
 self : Int
 inc : Int
 now : Int
 seq : Int
 asked : Int
 over : Bool
 left : Bool
 V : Vw
 Q : List Td
 O : List Int
 C : List Mo
def DS.tell (s : DS) (c : Cl) : DS := { s with V := hearV s.V c, Q := qput s.Q c }
def hearD (s : DS) (c : Cl) : DS × Int :=
 if c.n = s.self then
  if refE s.self s.inc c.n c.i c.h ≠ 0 then ({ s with over := true }, refE s.self s.inc c.n c.i c.h)
  else if s.inc < refN s.self s.inc c.n c.i c.h then ({ s with inc := refN s.self s.inc c.n c.i c.h }.tell ⟨s.self, refN s.self s.inc c.n c.i c.h, 1⟩, 0)
  else (s, 0)
 else if heardB s.V c then ({ s with V := hearV s.V c, Q := qput s.Q c, C := if c.h = 2 then setM s.C ⟨100 + c.n, s.now + 6⟩ else cutM s.C (100 + c.n) }, 0)
 else (s, 0)
def claimsTo (s : DS) (dst : Int) : List Cl :=
 [ofV s.V s.self] ++ (if (ofV s.V dst).h = 2 ∨ (ofV s.V dst).h = 3 then [ofV s.V dst] else []) ++ (qout s.Q).map Td.c
def sentD (s : DS) : DS := { s with Q := qrest s.Q }
structure MM where
 kind : Int
 frm : Int
 dst : Int
 seq : Int
 for' : Int
 about : Int
 claims : List Cl
def sendD (s : DS) (kind dst seq for' about : Int) : DS × MM := (sentD s, ⟨kind, s.self, dst, seq, for', about, claimsTo s dst⟩)
def dueD (peers : List Int) (draw : Int) (x : DS × List MM) (id : Int) : DS × List MM :=
 if 100 ≤ id then (if (ofV x.1.V (id - 100)).h = 2 then ((hearD x.1 ⟨(ofV x.1.V (id - 100)).n, (ofV x.1.V (id - 100)).i, 3⟩).1, x.2) else x)
 else if id = 1 then
  (some' ((peersOf peers x.1.self).filter fun p => !(p == x.1.asked)) 2 draw).foldl (fun y p => ((sendD y.1 3 p y.1.seq 0 y.1.asked).1, y.2 ++ [(sendD y.1 3 p y.1.seq 0 y.1.asked).2])) x
 else if id = 2 then
  ({ (if (ofV x.1.V x.1.asked).h = 1 then (hearD x.1 ⟨(ofV x.1.V x.1.asked).n, (ofV x.1.V x.1.asked).i, 2⟩).1 else x.1) with asked := -1 }, x.2)
 else x
def askD (peers : List Int) (draw : Int) (x : DS × List MM) : DS × List MM :=
 if 0 ≤ x.1.asked then x
 else
  let n := nextOf x.1.self x.1.O peers draw
  let s1 : DS := { x.1 with asked := n.1, O := n.2 }
  if n.1 < 0 then (s1, x.2)
  else
   let s2 : DS := { s1 with seq := if 1000000 < s1.seq + 1 then 1 else s1.seq + 1 }
   let y := sendD s2 1 s2.asked s2.seq s2.self 0
   ({ y.1 with C := setM (setM y.1.C ⟨1, y.1.now + 2⟩) ⟨2, y.1.now + 4⟩ }, x.2 ++ [y.2])
def tickD (s : DS) (peers : List Int) (draw : Int) : DS × List MM :=
 let s0 : DS := { s with now := s.now + 1 }
 if s.left then (s0, [])
 else askD peers draw ((dueM s0.C s0.now).foldl (fun x m => dueD peers draw x m.n) ({ s0 with C := restM s0.C s0.now }, []))
def heardM (s : DS) (l : List Cl) : DS := ((l.filter mayK).take 4).foldl (fun s c => if nothingK c then s else (hearD s c).1) s
def fromD (s : DS) (frm : Int) : DS := if (ofV s.V frm).h = 4 then s else (hearD s ⟨frm, (ofV s.V frm).i, 1⟩).1
def handleD (s : DS) (m : MM) : DS × List MM :=
 if m.dst ≠ s.self ∨ nodeB m.frm = false ∨ m.frm = s.self then (s, [])
 else
  let s1 := fromD (heardM s m.claims) m.frm
  if m.kind = 2 ∧ m.for' = s1.self then
   (if m.seq = s1.seq ∧ 0 ≤ s1.asked then { s1 with C := cutM (cutM s1.C 1) 2, asked := -1 } else s1, [])
  else if s1.left then (s1, [])
  else if m.kind = 1 then ((sendD s1 2 m.frm m.seq m.for' 0).1, [(sendD s1 2 m.frm m.seq m.for' 0).2])
  else if m.kind = 2 ∧ nodeB m.for' = true then ((sendD s1 2 m.for' m.seq m.for' 0).1, [(sendD s1 2 m.for' m.seq m.for' 0).2])
  else if m.kind = 3 ∧ nodeB m.about = true ∧ m.about ≠ s1.self then ((sendD s1 1 m.about m.seq m.frm 0).1, [(sendD s1 1 m.about m.seq m.frm 0).2])
  else (s1, [])
def hearCall (s : DS) (c : Cl) : DS × Int := if mayK c = false ∨ nothingK c = true then (s, 1) else hearD s c
def leaveD (s : DS) : DS × Cl := (if s.left then s else { s with left := true }.tell ⟨s.self, s.inc, 4⟩, ⟨s.self, s.inc, 4⟩)
def newD (self inc : Int) : DS := ⟨self, inc, 0, 0, -1, false, false, hearV view0 ⟨self, inc, 1⟩, [], [], []⟩
end Go.Proofs.YtjbihgfdgaiecaaGreat

/- The reference's view: NewView, Hear, Of, All. -/
namespace Go.Proofs.YtjbihgfdgaiecaaGreat
open Go Go.RowKit
def ViewR (W : World) (b : Nat) (V : Vw) : Prop := W.heap[b]? = some (.cells (cellsV V) 115 (0, 0))
theorem ViewR.lt {W : World} {b : Nat} {V : Vw} (h : ViewR W b V) : b < W.heap.size := (Array.getElem?_eq_some_iff.1 h).1
theorem ViewR.cell {W : World} {b : Nat} {V : Vw} (h : ViewR W b V) (j : Nat) : W.cell? ⟨b, j, none⟩ = (cellsV V)[j]? := by simp [World.cell?, show W.heap[b]? = _ from h]
theorem ViewR.frozen {W : World} {b : Nat} {V : Vw} (h : ViewR W b V) (j : Nat) : W.frozen? ⟨b, j, none⟩ = false := by simp [World.frozen?, show W.heap[b]? = _ from h]
theorem ViewR.later {W W' : World} {b : Nat} {V : Vw} (h : ViewR W b V) (hb : Below W.heap.size W W') : ViewR W' b V := (hb.block b h.lt).trans h
theorem ViewR.set3 {W : World} {b : Nat} {V : Vw} (h : ViewR W b V) (c : Cl) (k : Nat) (hk : k < 8) (hn : c.n = k) :
  ViewR (((W.setCell ⟨b, k * 3, none⟩ (.int .i64 c.n)).setCell ⟨b, k * 3 + 1, none⟩ (.int .i64 c.i)).setCell ⟨b, k * 3 + 2, none⟩ (.int .i64 c.h)) b (putV V c) := by
 have h1 := heap_setCell_same W b (k * 3) _ _ (.int .i64 c.n) h
 have h2 := heap_setCell_same _ b (k * 3 + 1) _ _ (.int .i64 c.i) h1
 have h3 := heap_setCell_same _ b (k * 3 + 2) _ _ (.int .i64 c.h) h2
 refine h3.trans ?_
 congr 2
 have e : c.n.toNat = k := by omega
 unfold putV
 rw [e]
 rcases (by omega : k = 0 ∨ k = 1 ∨ k = 2 ∨ k = 3 ∨ k = 4 ∨ k = 5 ∨ k = 6 ∨ k = 7) with rfl | rfl | rfl | rfl | rfl | rfl | rfl | rfl <;> rfl
theorem mayK_node {c : Cl} (hm : mayK c = true) : 0 ≤ c.n ∧ c.n < 8 := by unfold mayK mayB at hm; simp only [decide_eq_true_eq] at hm; exact hm.1
theorem nothing_low {V : Vw} (hV : VwOk V) {c : Cl} (hm : mayK c = true) (hn : nothingK c = true) : cmpK c (V c.n.toNat) ≤ 0 := by
 have hnb := mayK_node hm
 have h1 := (hV c.n.toNat (by omega)).2
 simp only [nothingK, nothingB, decide_eq_true_eq] at hn
 unfold cmpK
 rw [hn.1, hn.2, cmpC_le]
 omega
theorem VwOk.hear {V : Vw} (hV : VwOk V) (c : Cl) : VwOk (hearV V c) := by
 unfold hearV
 split
 ·rename_i h
  simp only [heardB, Bool.and_eq_true, decide_eq_true_eq] at h
  have hnb := mayK_node h.1
  have hm := h.1
  unfold mayK mayB at hm
  simp only [decide_eq_true_eq] at hm
  intro k hk
  unfold putV
  split
  ·rename_i e
   refine ⟨by omega, ?_⟩
   rcases hm.2 with h2 | h2
   ·exact .inl h2
   ·exact .inr h2
  ·exact hV k hk
 ·exact hV
set_option maxHeartbeats 1000000 in
set_option maxRecDepth 100000 in
theorem hearRV_no (b : Nat) (V : Vw) (c : Cl) (w : World) (hb : ViewR w b V) (hm : mayK c = false) : Gives Tryz.prog 35 #[.pointer (some ⟨b, 0, none⟩), c.val] w (.bool false) := by
 obtain ⟨n, i, s⟩ := c
 unfold Gives
 have HM : Hid (∀ w, Gives Tryz.prog 38 #[.agg #[.int .i64 n, .int .i64 i, .int .i64 s]] w (.bool false)) := Lib.hid (fun w => (refMay_any n i s w).cast (by rw [show mayB n i s = false from hm]))
 clear hm hb
 unfold Cl.val
 dsimp only
 go_enter Tryz.func35, Tryz.ntmps35
 go_wp2
 refine wp_region_later (by kernel_rfl) (by kernel_rfl) ?_
 repeat (go_big_quiet_step (first | (go_at_call 38; with_reducible exact later_of (HM.out _))))
 refine wpQuiet_nil ?_
 rintro _ ⟨x9, rfl⟩
 go_wp2
 all_goals go_ret
 all_goals exact ⟨rfl, Later.ex (by repeat (first | exact ext_refl _ | refine ext_alloc ?_ _ | refine ext_later ?_ _ | refine ext_drew ?_ | refine ext_drewN ?_ _))⟩
set_option maxHeartbeats 1000000 in
set_option maxRecDepth 100000 in
theorem hearRV_nothing (b : Nat) (V : Vw) (c : Cl) (w : World) (hb : ViewR w b V) (hm : mayK c = true) (hn : nothingK c = true) : Gives Tryz.prog 35 #[.pointer (some ⟨b, 0, none⟩), c.val] w (.bool false) := by
 obtain ⟨n, i, s⟩ := c
 unfold Gives
 have HM : Hid (∀ w, Gives Tryz.prog 38 #[.agg #[.int .i64 n, .int .i64 i, .int .i64 s]] w (.bool true)) := Lib.hid (fun w => (refMay_any n i s w).cast (by rw [show mayB n i s = true from hm]))
 have HN : Hid (∀ w, Gives Tryz.prog 39 #[.agg #[.int .i64 n, .int .i64 i, .int .i64 s]] w (.bool true)) := Lib.hid (fun w => (refNothing_any n i s w).cast (by rw [show nothingB i s = true from hn]))
 clear hm hn hb
 unfold Cl.val
 dsimp only
 go_enter Tryz.func35, Tryz.ntmps35
 go_wp2
 refine wp_region_later (by kernel_rfl) (by kernel_rfl) ?_
 repeat (go_big_quiet_step (first | (go_at_call 38; with_reducible exact later_of (HM.out _)) | (go_at_call 39; with_reducible exact later_of (HN.out _))))
 refine wpQuiet_nil ?_
 rintro _ ⟨x9, rfl⟩
 go_wp2
 all_goals go_ret
 all_goals exact ⟨rfl, Later.ex (by repeat (first | exact ext_refl _ | refine ext_alloc ?_ _ | refine ext_later ?_ _ | refine ext_drew ?_ | refine ext_drewN ?_ _))⟩
set_option maxHeartbeats 1000000 in
set_option maxRecDepth 100000 in
theorem hearRV_low (b : Nat) (V : Vw) (c : Cl) (w : World) (h : ViewR w b V) (hm : mayK c = true) (hn : nothingK c = false) (hle : cmpK c (V c.n.toNat) ≤ 0) : Gives Tryz.prog 35 #[.pointer (some ⟨b, 0, none⟩), c.val] w (.bool false) := by
 have hnb := mayK_node hm
 obtain ⟨n, i, s⟩ := c
 dsimp only at hnb hle
 obtain ⟨k, rfl⟩ : ∃ k : Nat, n = k := ⟨n.toNat, by omega⟩
 unfold Gives
 have hk : k < 8 := by omega
 have hlt := h.lt
 have H8 := cells8 V k hk
 have hc0 : w.cell? ⟨b, k * 3, none⟩ = some (.int .i64 (V k).n) := (h.cell _).trans H8.1
 have hc1 : w.cell? ⟨b, k * 3 + 1, none⟩ = some (.int .i64 (V k).i) := (h.cell _).trans H8.2.1
 have hc2 : w.cell? ⟨b, k * 3 + 2, none⟩ = some (.int .i64 (V k).h) := (h.cell _).trans H8.2.2
 have HM : Hid (∀ w, Gives Tryz.prog 38 #[.agg #[.int .i64 k, .int .i64 i, .int .i64 s]] w (.bool true)) := Lib.hid (fun w => (refMay_any k i s w).cast (by rw [show mayB k i s = true from hm]))
 have HN : Hid (∀ w, Gives Tryz.prog 39 #[.agg #[.int .i64 k, .int .i64 i, .int .i64 s]] w (.bool false)) := Lib.hid (fun w => (refNothing_any k i s w).cast (by rw [show nothingB i s = false from hn]))
 simp only [Int.toNat_natCast] at hle
 obtain ⟨x, ex⟩ : ∃ x, cmpC i s (V k).i (V k).h = x := ⟨_, rfl⟩
 have HX : Hid (∀ w, Gives Tryz.prog 61 #[.agg #[.int .i64 k, .int .i64 i, .int .i64 s], .agg #[.int .i64 (V k).n, .int .i64 (V k).i, .int .i64 (V k).h]] w (.int .i64 x)) := Lib.hid (fun w => (refCompare_any k i s (V k).n (V k).i (V k).h w).cast (by rw [ex]))
 have hx : x ≤ 0 := by rw [← ex]; exact hle
 clear hm hn hle H8 ex h
 unfold Cl.val
 dsimp only
 go_enter Tryz.func35, Tryz.ntmps35
 go_wp2
 refine wp_region_later (by kernel_rfl) (by kernel_rfl) ?_
 repeat (go_big_quiet_step (first | (go_at_call 38; with_reducible exact later_of (HM.out _)) | (go_at_call 39; with_reducible exact later_of (HN.out _)) | (go_at_call 61; with_reducible exact later_of (HX.out _))))
 refine wpQuiet_nil ?_
 rintro _ ⟨x9, rfl⟩
 go_wp2
 all_goals go_ret
 all_goals exact ⟨rfl, Later.ex (by repeat (first | exact ext_refl _ | refine ext_alloc ?_ _ | refine ext_later ?_ _ | refine ext_drew ?_ | refine ext_drewN ?_ _))⟩
set_option maxHeartbeats 1000000 in
set_option maxRecDepth 100000 in
theorem hearRV_up (b : Nat) (V : Vw) (c : Cl) (w : World) (h : ViewR w b V) (hm : mayK c = true) (hn : nothingK c = false) (hle : 0 < cmpK c (V c.n.toNat)) : Calls Tryz.prog 35 #[.pointer (some ⟨b, 0, none⟩), c.val] w fun e w' => e = .returned (.bool true) ∧ ViewR w' b (putV V c) ∧ Fr (fun k => k = b) w w' := by
 have hnb := mayK_node hm
 obtain ⟨n, i, s⟩ := c
 dsimp only at hnb hle
 obtain ⟨k, rfl⟩ : ∃ k : Nat, n = k := ⟨n.toNat, by omega⟩
 have hk : k < 8 := by omega
 have hlt := h.lt
 have hne : b ≠ w.heap.size := by omega
 have H8 := cells8 V k hk
 have hc0 : w.cell? ⟨b, k * 3, none⟩ = some (.int .i64 (V k).n) := (h.cell _).trans H8.1
 have hc1 : w.cell? ⟨b, k * 3 + 1, none⟩ = some (.int .i64 (V k).i) := (h.cell _).trans H8.2.1
 have hc2 : w.cell? ⟨b, k * 3 + 2, none⟩ = some (.int .i64 (V k).h) := (h.cell _).trans H8.2.2
 have hf0 := h.frozen (k * 3)
 have hf1 := h.frozen (k * 3 + 1)
 have hf2 := h.frozen (k * 3 + 2)
 have HM : Hid (∀ w, Gives Tryz.prog 38 #[.agg #[.int .i64 k, .int .i64 i, .int .i64 s]] w (.bool true)) := Lib.hid (fun w => (refMay_any k i s w).cast (by rw [show mayB k i s = true from hm]))
 have HN : Hid (∀ w, Gives Tryz.prog 39 #[.agg #[.int .i64 k, .int .i64 i, .int .i64 s]] w (.bool false)) := Lib.hid (fun w => (refNothing_any k i s w).cast (by rw [show nothingB i s = false from hn]))
 simp only [Int.toNat_natCast] at hle
 obtain ⟨x, ex⟩ : ∃ x, cmpC i s (V k).i (V k).h = x := ⟨_, rfl⟩
 have HX : Hid (∀ w, Gives Tryz.prog 61 #[.agg #[.int .i64 k, .int .i64 i, .int .i64 s], .agg #[.int .i64 (V k).n, .int .i64 (V k).i, .int .i64 (V k).h]] w (.int .i64 x)) := Lib.hid (fun w => (refCompare_any k i s (V k).n (V k).i (V k).h w).cast (by rw [ex]))
 have hx : 0 < x := by rw [← ex]; exact hle
 have HV := Lib.hid h
 clear hm hn hle H8 ex h
 unfold Cl.val
 dsimp only
 go_enter Tryz.func35, Tryz.ntmps35
 go_wp2
 refine wp_region_later (by kernel_rfl) (by kernel_rfl) ?_
 repeat (go_big_quiet_step (first | (go_at_call 38; with_reducible exact later_of (HM.out _)) | (go_at_call 39; with_reducible exact later_of (HN.out _)) | (go_at_call 61; with_reducible exact later_of (HX.out _))))
 refine wpQuiet_nil ?_
 rintro _ ⟨x9, rfl⟩
 go_wp2
 go_region
 all_goals go_wp2
 all_goals go_ret
 all_goals refine ⟨rfl, ?_, ?_⟩
 all_goals have hb : Below w.heap.size w x9.w := by repeat (first | exact ext_refl _ | refine ext_alloc ?_ _ | refine ext_later ?_ _ | refine ext_drew ?_ | refine ext_drewN ?_ _)
 ·exact ViewR.set3 (HV.out.later hb) ⟨k, i, s⟩ k hk rfl
 ·exact ((((Fr.of_below (F := fun k => k = b) hb).set b _ _ (.inl rfl)).set b _ _ (.inl rfl)).set b _ _ (.inl rfl)).drew
def ViewRA (b : Nat) (V : Vw) : Asn := fun W H => (ViewR W b V ∧ VwOk V) ∧ ∀ k, H k ↔ k = b
theorem viewRA_owns (b : Nat) (V : Vw) : Owns (ViewRA b V) where
 lt W F h k hk := by rw [(h.2 k).1 hk]; exact h.1.1.lt
 kept W W' F h _ hk := ⟨⟨(hk b ((h.2 b).2 rfl)).trans h.1.1, h.1.2⟩, h.2⟩
theorem hearRV_any (b : Nat) (V : Vw) (c : Cl) : Trip Tryz.prog 35 #[.pointer (some ⟨b, 0, none⟩), c.val] (ViewRA b V) fun u => pureA (u = .bool (heardB V c)) (ViewRA b (hearV V c)) := by
 intro w H h
 have hv := h.1.1
 have stay : ∀ x : Later w, heardB V c = false → SEnd (pureA (Value.bool false = .bool (heardB V c)) (ViewRA b (hearV V c))) H w x.w := fun x e => by
  rw [hearV, if_neg (by simp [e]), e]
  exact (sEnd_refl (P := pureA (Value.bool false = .bool false) (ViewRA b V)) ⟨rfl, h⟩).later (pureA_owns (viewRA_owns b V)) x
 by_cases hm : mayK c = true
 ·by_cases hle : 0 < cmpK c (V c.n.toNat)
  ·have e : heardB V c = true := by simp [heardB, hm, hle]
   have hn : nothingK c = false := by
    cases hn : nothingK c with
    | false => rfl
    | true => have := nothing_low h.1.2 hm hn; omega
   have hok := h.1.2.hear c
   rw [hearV, if_pos e] at hok ⊢
   rw [e]
   exact (hearRV_up b V c w hv hm hn hle).mono fun _ w' ⟨he, h1, h2⟩ => ⟨_, he, fun k => k = b, ⟨rfl, ⟨h1, hok⟩, fun _ => Iff.rfl⟩, ⟨h2.os, h2.tape, h2.output, h2.size, fun k hk hn => h2.block k hk fun e => hn ((h.2 k).2 e)⟩, fun k hk => .inl ((h.2 k).2 hk)⟩
  ·have e : heardB V c = false := by simp [heardB, hle]
   cases hn : nothingK c with
   | true => exact (hearRV_nothing b V c w hv hm hn).mono fun _ w' ⟨he, x, hx⟩ => ⟨_, he, by rw [hx]; exact stay x e⟩
   | false => exact (hearRV_low b V c w hv hm hn (by omega)).mono fun _ w' ⟨he, x, hx⟩ => ⟨_, he, by rw [hx]; exact stay x e⟩
 ·have e : heardB V c = false := by simp [heardB, hm]
  exact (hearRV_no b V c w hv (by simpa using hm)).mono fun _ w' ⟨he, x, hx⟩ => ⟨_, he, by rw [hx]; exact stay x e⟩
set_option maxHeartbeats 1000000 in
set_option maxRecDepth 100000 in
theorem ofRV_out (b : Nat) (n : Int) (w : World) (h : n < 0 ∨ 8 ≤ n) : Gives Tryz.prog 24 #[.pointer (some ⟨b, 0, none⟩), .int .i64 n] w Cl.zero.val := by
 unfold Gives
 have HN : Hid (∀ w, Gives Tryz.prog 32 #[.int .i64 n] w (.bool false)) := Lib.hid (fun w => (refNode_any n w).cast (by rw [show nodeB n = false from by simp [nodeB]; omega]))
 go_enter Tryz.func24, Tryz.ntmps24
 go_wp2_with fail
 refine Gives.mono' (HN.out _) ?_
 intro x
 go_wp2_with fail
 exact bodyPost_ret (v := Cl.zero.val) (by simp [results, Tryz.results24, go_sem, Cl.zero, Cl.val]) rfl ⟨rfl, Later.ex (by repeat (first | exact ext_refl _ | refine ext_alloc ?_ _ | refine ext_later ?_ _ | refine ext_drew ?_ | refine ext_drewN ?_ _ | refine ext_setCell ?_ _ _ (by first | assumption | (dsimp only; omega))))⟩
set_option maxHeartbeats 1000000 in
set_option maxRecDepth 100000 in
theorem ofRV_in (b : Nat) (V : Vw) (k : Nat) (hk : k < 8) (w : World) (h : ViewR w b V) : Gives Tryz.prog 24 #[.pointer (some ⟨b, 0, none⟩), .int .i64 k] w (V k).val := by
 unfold Gives Cl.val
 have hlt := h.lt
 have hne : b ≠ w.heap.size := by omega
 have H8 := cells8 V k hk
 have hc0 : w.cell? ⟨b, k * 3, none⟩ = some (.int .i64 (V k).n) := (h.cell _).trans H8.1
 have hc1 : w.cell? ⟨b, k * 3 + 1, none⟩ = some (.int .i64 (V k).i) := (h.cell _).trans H8.2.1
 have hc2 : w.cell? ⟨b, k * 3 + 2, none⟩ = some (.int .i64 (V k).h) := (h.cell _).trans H8.2.2
 have HN : Hid (∀ w, Gives Tryz.prog 32 #[.int .i64 k] w (.bool true)) := Lib.hid (fun w => (refNode_any k w).cast (by rw [show nodeB k = true from by simp [nodeB]; omega]))
 clear h H8
 go_enter Tryz.func24, Tryz.ntmps24
 go_wp2_with fail
 refine Gives.mono' (HN.out _) ?_
 intro x
 go_wp2_with fail
 exact bodyPost_ret (v := .agg #[.int .i64 (V k).n, .int .i64 (V k).i, .int .i64 (V k).h]) (by simp [results, Tryz.results24, go_sem]) rfl ⟨rfl, Later.ex (by repeat (first | exact ext_refl _ | refine ext_alloc ?_ _ | refine ext_later ?_ _ | refine ext_drew ?_ | refine ext_drewN ?_ _ | refine ext_setCell ?_ _ _ (by first | assumption | (dsimp only; omega))))⟩
theorem ofRV_any (b : Nat) (V : Vw) (n : Int) (w : World) (H : Nat → Prop) (h : ViewRA b V w H) : Gives Tryz.prog 24 #[.pointer (some ⟨b, 0, none⟩), .int .i64 n] w (ofV V n).val := by
 by_cases hn : 0 ≤ n ∧ n < 8
 ·obtain ⟨k, rfl⟩ : ∃ k : Nat, n = k := ⟨n.toNat, by omega⟩
  have e : ofV V k = V k := by
   rw [ofV, if_pos hn]
   have := (h.1.2 k (by omega)).1
   simp only [Int.toNat_natCast]
   rw [← this]
  rw [e]
  exact ofRV_in b V k (by omega) w h.1.1
 ·have e : ofV V n = Cl.zero := by rw [ofV, if_neg hn]
  rw [e]
  exact ofRV_out b n w (by omega)
end Go.Proofs.YtjbihgfdgaiecaaGreat

/- The reference's view: NewView, All. -/
namespace Go.Proofs.YtjbihgfdgaiecaaGreat
open Go Go.RowKit
def elemCl : Elem Tryz.prog Cl where
 enc c := [.int .i64 c.n, .int .i64 c.i, .int .i64 c.h]
 k := 3
 pos := by decide
 len _ := rfl
 one _ u hu := by
  simp only [List.mem_cons, List.not_mem_nil, or_false] at hu
  rcases hu with rfl | rfl | rfl <;> rfl
 t := 30
 sl := 44
 under := Tryz.underlying44
 z := .agg #[.int .i64 0, .int .i64 0, .int .i64 0]
 bytes := 24
 bpos := by decide
 info := by kernel_rfl
 zs := by kernel_rfl
def upTo (k : Nat) : Vw := fun j => if j < k then ⟨j, 0, 0⟩ else Cl.zero
theorem upTo_step {W : World} {b k : Nat} (h : ViewR W b (upTo k)) (hk : k < 8) : ViewR (W.setCell ⟨b, k * 3, none⟩ (.int .i64 k)) b (upTo (k + 1)) := by
 refine (heap_setCell_same W b (k * 3) _ _ (.int .i64 k) h).trans ?_
 congr 2
 rcases (by omega : k = 0 ∨ k = 1 ∨ k = 2 ∨ k = 3 ∨ k = 4 ∨ k = 5 ∨ k = 6 ∨ k = 7) with rfl | rfl | rfl | rfl | rfl | rfl | rfl | rfl <;> rfl
theorem upTo_all {W : World} {b : Nat} (h : ViewR W b (upTo 8)) : ViewR W b view0 := h
set_option maxHeartbeats 1000000 in
set_option maxRecDepth 100000 in
theorem newRV_any (w : World) : Calls Tryz.prog 33 #[] w fun e w' => e = .returned (.pointer (some ⟨w.heap.size, 0, none⟩)) ∧ ViewR w' w.heap.size view0 ∧ Below w.heap.size w w' := by
 have H0 : Hid (ViewR (w.alloc (.cells (cellsV (upTo 0)) 115)) w.heap.size (upTo 0)) := Lib.hid (heap_alloc_new _ _)
 have HB0 : Hid (Below w.heap.size w (w.alloc (.cells (cellsV (upTo 0)) 115))) := Lib.hid (ext_alloc (ext_refl w) _)
 go_enter Tryz.func33, Tryz.ntmps33
 go_upto_region 2 with fail
 obtain ⟨b, hb⟩ : ∃ b, w.heap.size = b := ⟨_, rfl⟩
 rw [hb] at H0 HB0 ⊢
 have Hb := Lib.hid hb
 clear hb
 go_wp2_with fail
 go_loopw [5] (fun v5 wr => ∃ k : Nat, k ≤ 8 ∧ v5 = .int .i64 k ∧ Hid (ViewR wr b (upTo k)) ∧ Hid (Below b w wr)) (fun v5 _ => 8 - (intOf v5).toNat)
 case atStart => exact ⟨0, by omega, rfl, H0, HB0⟩
 case round =>
  clear H0 HB0
  obtain ⟨k, hk, rfl, HV, HB⟩ := hrel
  by_cases hk8 : k < 8
  ·have e0 : wr.cell? ⟨b, k * 3, none⟩ = some (.int .i64 0) := by
    rw [HV.out.cell, (cells8 (upTo k) k hk8).1]
    simp [upTo, Cl.zero]
   have f0 := HV.out.frozen (k * 3)
   have hlt := HV.out.lt
   have HV' := Lib.hid (upTo_step HV.out hk8)
   have HB' : Hid (Below b w (wr.setCell ⟨b, k * 3, none⟩ (.int .i64 k))) := Lib.hid (HB.out.setCell (Nat.le_refl _) _)
   go_wp2_with fail
   go_roundw
   case rel => exact ⟨k + 1, by omega, by go_num, HV', HB'⟩
   case measure => simp [intOf]; omega
  ·obtain rfl : k = 8 := by omega
   go_wp2_with fail
   go_ret
   have hb := Hb.out
   subst hb
   exact ⟨rfl, upTo_all HV.out, HB.out⟩
theorem nothing_h {V : Vw} (hV : VwOk V) {k : Nat} (hk : k < 8) : nothingB (V k).i (V k).h = ((V k).h == 0) := by
 have := (hV k hk).2
 unfold nothingB
 rw [Bool.eq_iff_iff]
 simp only [decide_eq_true_eq, beq_iff_eq]
 omega
set_option maxHeartbeats 1000000 in
set_option maxRecDepth 100000 in
theorem allRV_any (b : Nat) (V : Vw) (w : World) (H : Nat → Prop) (h : ViewRA b V w H) : Calls Tryz.prog 22 #[.pointer (some ⟨b, 0, none⟩)] w fun e w' => ∃ v, e = .returned v ∧ MadeE elemCl w w' v (saidV V) := by
 have HV := Lib.hid h.1.1
 have HOk := Lib.hid h.1.2
 have H0 : Hid (MadeE elemCl w w (.slice none 0 0) (saidUp V 0)) := Lib.hid (madeE_nil (Below.refl _ _))
 have HNo : Hid (∀ n i h W, Gives Tryz.prog 39 #[.agg #[.int .i64 n, .int .i64 i, .int .i64 h]] W (.bool (nothingB i h))) := Lib.hid refNothing_any
 clear h
 go_enter Tryz.func22, Tryz.ntmps22
 go_wp2_with fail
 go_loopw [3, 8] (fun v3 v8 wr => ∃ k : Nat, k ≤ 8 ∧ v8 = .int .i64 k ∧ Hid (MadeE elemCl w wr v3 (saidUp V k))) (fun _ v8 _ => 8 - (intOf v8).toNat)
 case atStart => exact ⟨0, by omega, rfl, H0⟩
 case round =>
  clear H0
  obtain ⟨k, hk, rfl, HM⟩ := hrel
  by_cases hk8 : k < 8
  ·have hvr := HV.out.later HM.out.2
   have H8 := cells8 V k hk8
   have c0 : wr.cell? ⟨b, k * 3, none⟩ = some (.int .i64 (V k).n) := (hvr.cell _).trans H8.1
   have c1 : wr.cell? ⟨b, k * 3 + 1, none⟩ = some (.int .i64 (V k).i) := (hvr.cell _).trans H8.2.1
   have c2 : wr.cell? ⟨b, k * 3 + 2, none⟩ = some (.int .i64 (V k).h) := (hvr.cell _).trans H8.2.2
   have hlt := hvr.lt
   have hne : b ≠ wr.heap.size := by omega
   have HL := Lib.hid (saidUp_len V k)
   have hno := nothing_h HOk.out hk8
   obtain ⟨n, hn⟩ : ∃ n, (V k).n = n := ⟨_, rfl⟩
   obtain ⟨i, hi⟩ : ∃ n, (V k).i = n := ⟨_, rfl⟩
   obtain ⟨s, hs⟩ : ∃ n, (V k).h = n := ⟨_, rfl⟩
   have HVk : Hid (V k = ⟨n, i, s⟩) := Lib.hid (by rw [← hn, ← hi, ← hs])
   rw [hn] at c0
   rw [hi] at c1
   rw [hs] at c2
   rw [hi, hs] at hno
   have HC := Lib.hid (fun W => (HNo.out n i s W).cast (by rw [hno]))
   clear hvr H8 hn hi hs hno
   cases hz : (s == 0) with
   | true =>
    rw [hz] at HC
    have HM' : Hid (saidUp V (k + 1) = saidUp V k) := Lib.hid (saidUp_miss V k (by rw [HVk.out]; simpa using hz))
    clear hz
    go_wp2_with fail
    refine Gives.mono' (HC.out _) ?_
    intro x
    have HM2 := Lib.hid ((HM.out.later ⟨_, ext_alloc (ext_refl wr) (.cells #[.int .i64 n, .int .i64 i, .int .i64 s] 30)⟩).later x)
    go_wp2_with fail
    go_roundw
    case rel => exact ⟨k + 1, by omega, by go_num, by rw [HM'.out]; exact HM2⟩
    case measure => simp [intOf]; omega
   | false =>
    rw [hz] at HC
    have HM' : Hid (saidUp V (k + 1) = saidUp V k ++ [⟨n, i, s⟩]) := Lib.hid (by rw [← HVk.out]; exact saidUp_hit V k (by rw [HVk.out]; simp [bne, hz]))
    clear hz
    go_wp2_with fail
    refine Gives.mono' (HC.out _) ?_
    intro x
    have hm2 := (HM.out.later ⟨_, ext_alloc (ext_refl wr) (.cells #[.int .i64 n, .int .i64 i, .int .i64 s] 30)⟩).later x
    have HM3 := Lib.hid (hm2.later ⟨_, ext_alloc (ext_refl x.w) (.cells #[.int .i64 n, .int .i64 i, .int .i64 s] 30)⟩)
    have HS3 := Lib.hid (srcE_one (E := elemCl) (x := ⟨n, i, s⟩) (heap_alloc_new x.w (.cells #[.int .i64 n, .int .i64 i, .int .i64 s] 30)) rfl)
    clear hm2
    go_wp2_with (at_builtin; refine wpListE_append (E := elemCl) (xs := saidUp V k) (l2 := [⟨n, i, s⟩]) rfl _ _ rfl rfl rfl HM3.out HS3.out (by have := HL.out; show ((saidUp V k).length + 1) * 24 ≤ _; omega) ?_; intro v' w5 hm5; have HM5 := Lib.hid hm5; clear hm5)
    go_roundw
    case rel => exact ⟨k + 1, by omega, by go_num, by rw [HM'.out]; exact HM5⟩
    case measure => simp [intOf]; omega
  ·obtain rfl : k = 8 := by omega
   go_wp2_with fail
   go_ret
   exact ⟨_, rfl, HM.out⟩
end Go.Proofs.YtjbihgfdgaiecaaGreat

/- The reference's queue, order and clock, as objects side by side. -/
namespace Go.Proofs.YtjbihgfdgaiecaaGreat
open Go Go.RowKit
def RowO {α : Type} (E : Elem Tryz.prog α) (v : Value) (xs : List α) : Asn := fun W H => W.ownsRow 0 E.t E.k v xs.length (E.cells xs) ∧ ∀ k, H k ↔ v.ownBlock = some k
theorem rowO_owns {α : Type} (E : Elem Tryz.prog α) (v : Value) (xs : List α) : Owns (RowO E v xs) where
 lt W F h k hk := (h.1.lt k ((h.2 k).1 hk)).2
 kept W W' F h hs hk := ⟨row_keepsE h.1 fun g hg => hk g ((h.2 g).2 hg), h.2⟩
theorem row_zeroE {W : World} {e : TypeId} {size n base : Nat} {v : Value} {xs : List Value} (h : W.ownsRow base e size v n xs) : W.ownsRow 0 e size v n xs := by
 refine ⟨h.1, ?_⟩
 rcases h.2 with h2 | ⟨g, cap, cur, rfl, _, rest⟩
 ·exact .inl h2
 ·exact .inr ⟨g, cap, cur, rfl, Nat.zero_le _, rest⟩
theorem RowO.src {α : Type} {E : Elem Tryz.prog α} {v : Value} {xs : List α} {W : World} {H : Nat → Prop} (h : RowO E v xs W H) : SrcE E W v xs := ⟨rowAt_own h.1, ownsRow_formE h.1⟩
theorem row_beside {α : Type} {E : Elem Tryz.prog α} {v : Value} {xs : List α} {P : Asn} (hP : Owns P) {W W' : World} {H H' : Nat → Prop} (hr : W'.ownsRow W.heap.size E.t E.k v xs.length (E.cells xs)) (hp : P W' H') (hf : Fr H W W') (hg : ∀ k, H' k → H k ∨ W.heap.size ≤ k) (hn : ∀ k, v.ownBlock = some k → ¬ H' k) : SEnd (star (RowO E v xs) P) H W W' :=
 ⟨fun k => v.ownBlock = some k ∨ H' k, ⟨fun k => v.ownBlock = some k, H', ⟨row_zeroE hr, fun _ => Iff.rfl⟩, hp, fun k hk => hn k hk, fun _ => Iff.rfl⟩, hf, fun k hk => by
  rcases hk with hk | hk
  ·exact .inr (hr.lt k hk).1
  ·exact hg k hk⟩
section queue
def QueRA (q : Nat) (L : List Td) : Asn := fun W H => ∃ R, RefQ q 3 R W H ∧ R.Perm L ∧ FineQ L
theorem queRA_owns (q : Nat) (L : List Td) : Owns (QueRA q L) where
 lt W F h := by obtain ⟨R, h, _⟩ := h; exact (refQ_owns q 3 R).lt W F h
 kept W W' F h hs hk := by obtain ⟨R, h, h2⟩ := h; exact ⟨R, (refQ_owns q 3 R).kept W W' F h hs hk, h2⟩
theorem qput_of {R L : List Td} (hp : R.Perm L) (hL : FineQ L) (c : Cl) : (putOf R c).2 = (putOf L c).2 ∧ (putOf R c).1.Perm (qput L c) := by
 obtain ⟨h1, h2⟩ := putOf_perm hp (once_perm hp.symm hL.fine.once) c
 exact ⟨h1, h2.trans (srtT_perm _).symm⟩
theorem queR_put (q : Nat) (L : List Td) (c : Cl) : Trip Tryz.prog 42 #[.pointer (some ⟨q, 0, none⟩), c.val] (QueRA q L) fun u => pureA (u = .bool (putOf L c).2) (QueRA q (qput L c)) := by
 rintro W H ⟨R, h, hp, hL⟩
 have hl := hp.length_eq
 have hl8 := hL.len
 obtain ⟨e1, e2⟩ := qput_of hp hL c
 exact (put_any q 3 R c W H h (by omega)).mono fun e W' ⟨he, F', h1, h2, h3⟩ => ⟨_, he, F', ⟨by rw [e1], _, h1, e2, hL.put c⟩, h2, h3⟩
theorem qtake_of {R L O rem : List Td} (hp : R.Perm L) (hL : FineQ L) (hk : Picked R O rem) (hn : (O.length : Int) = min (max (2 : Int) 0) (R.length : Int)) : O = qout L ∧ rem.Perm (L.drop (qcount L)) := by
 have hl := hp.length_eq
 exact picked_unique O R L _ _ _ hk (hL.picked (qcount L)) hp (by show O.length = (L.take (qcount L)).length; rw [List.length_take]; unfold qcount; omega)
theorem queR_take (q : Nat) (L : List Td) : Trip Tryz.prog 73 #[.pointer (some ⟨q, 0, none⟩), .int .i64 2] (QueRA q L) fun u => star (RowO elemCl u ((qout L).map Td.c)) (QueRA q (qrest L)) := by
 rintro W H ⟨R, h, hp, hL⟩
 have hfR := hL.fine.perm hp.symm
 have hlt := (refQ_owns q 3 R).lt W H h
 refine (take_apart q 3 R 2 W H h hfR.len (fun t ht => hfR.node ht) hfR.once (fun t ht => (hfR.good t ht).2.2) (by omega)).mono ?_
 rintro e W' ⟨v, O, tk, he, hpk, hn, hrow, F', h1, h2, h3, h4⟩
 obtain ⟨rfl, hrem⟩ := qtake_of hp hL hpk hn
 refine ⟨v, he, row_beside (queRA_owns q _) (by rw [List.length_map]; exact hrow) ⟨_, h1, ?_, hL.rest⟩ h2 h3 h4⟩
 exact (rest_perm hfR.once (fun t ht => (hfR.good t ht).2.2) hpk).trans ((hrem.append_right _).trans (srtT_perm _).symm)
end queue
section clock
def ClkRA (m : Nat) (L : List Mo) : Asn := pureA (FineM L) (RefC m L)
theorem clkRA_owns (m : Nat) (L : List Mo) : Owns (ClkRA m L) := pureA_owns (refC_owns m L)
theorem wideE {P : Asn} {m : Nat} {H F' : Nat → Prop} {W W' : World} (hm : ∀ k, k = m → H k) (h1 : P W' F') (h2 : Fr (fun k => k = m) W W') (h3 : ∀ k, F' k → H k ∨ W.heap.size ≤ k) : SEnd P H W W' :=
 ⟨F', h1, ⟨h2.os, h2.tape, h2.output, h2.size, fun k hk hn => h2.block k hk fun e => hn (hm k e)⟩, h3⟩
theorem refC_self {m : Nat} {L : List Mo} {W : World} {H : Nat → Prop} (h : RefC m L W H) : ∀ k, k = m → H k := by
 rintro k rfl
 obtain ⟨v, _, _, hH⟩ := h
 exact (hH k).2 (.inl rfl)
def aftSet (L : List Mo) (x : Mo) : List Mo := if okM x then setM L x else L
theorem clkR_set (m : Nat) (L : List Mo) (n t : Int) : Trip Tryz.prog 57 #[.pointer (some ⟨m, 0, none⟩), .int .i64 n, .int .i64 t] (ClkRA m L) fun u => pureA (u = .bool (okM ⟨n, t⟩)) (ClkRA m (aftSet L ⟨n, t⟩)) := by
 rintro W H ⟨hf, h⟩
 refine (refSet_any m L n t W H h hf.once hf.len).mono fun e W' ⟨he, F', h1, h2, h3⟩ => ⟨_, he, wideE (refC_self h) ⟨rfl, ?_, h1⟩ h2 h3⟩
 unfold aftSet
 split
 ·rename_i hx; exact hf.set hx
 ·exact hf
theorem clkR_cut (m : Nat) (L : List Mo) (n : Int) : Trip Tryz.prog 48 #[.pointer (some ⟨m, 0, none⟩), .int .i64 n] (ClkRA m L) fun u => pureA (u = .bool (hasM L n).isSome) (ClkRA m (cutM L n)) := by
 rintro W H ⟨hf, h⟩
 exact (refCut_any m L n W H h hf.once (by have := hf.len; omega)).mono fun e W' ⟨he, F', h1, h2, h3⟩ => ⟨_, he, wideE (refC_self h) ⟨rfl, hf.cut n, h1⟩ h2 h3⟩
theorem clkR_due (m : Nat) (L : List Mo) (now : Int) : Trip Tryz.prog 53 #[.pointer (some ⟨m, 0, none⟩), .int .i64 now] (ClkRA m L) fun u => star (RowO elemI u ((dueM L now).map Mo.n)) (ClkRA m (restM L now)) := by
 rintro W H ⟨hf, h⟩
 have hlt := (refC_owns m L).lt W H h
 have hself := refC_self h
 refine (refDue_any m L now W H h hf.sorted (by have := hf.len; omega)).mono ?_
 rintro e W' ⟨v, he, hs, hrow, ⟨F', h1, h3⟩, h2⟩
 refine ⟨v, he, row_beside (clkRA_owns m _) hrow ⟨hf.rest now, h1⟩ ⟨h2.os, h2.tape, h2.output, h2.size, fun k hk hn => h2.block k hk fun e => hn (hself k e)⟩ (fun k hk => .inl (h3 k hk)) fun k hk hk' => ?_⟩
 have h4 := (hrow.lt k hk).1
 have := hlt k (h3 k hk')
 omega
end clock
section order
theorem ints_rowAt {W : World} {v : Value} {l : List Int} (h : RowAt elemI W v l) : IntsAt W v l := by
 obtain ⟨p, cap, rfl, hr⟩ := h.form
 rcases hr with rfl | ⟨b, o, rfl, hlt, hc⟩
 ·exact .inl ⟨rfl, _, _, rfl⟩
 ·refine .inr ⟨b, o, cap, rfl, hlt, fun k x hk => ?_⟩
  have := hc k x hk 0 _ rfl
  rw [show k * elemI.k = k from Nat.mul_one k, Nat.add_zero] at this
  exact this
theorem nextOf_small {self : Int} {rest peers : List Int} {draw : Int} (hr : rest.length ≤ 64) : (nextOf self rest peers draw).2.length ≤ 64 := by
 unfold nextOf
 split
 ·exact hr
 ·show (leftNow rest (peersOf peers self) draw).tail.length ≤ 64
  rw [List.length_tail]
  have : (leftNow rest (peersOf peers self) draw).length ≤ 64 := by
   unfold leftNow
   split
   ·have h1 := shuf_len (peersOf peers self) draw
    have h2 := peersOf_len peers self
    omega
   ·rename_i x r e
    rw [← e]
    exact Nat.le_trans (List.length_filter_le _ _) hr
  omega
def OrdRA (m : Nat) (self : Int) (rest : List Int) : Asn := pureA (rest.length ≤ 64) (RefO m self rest)
theorem ordRA_owns (m : Nat) (self : Int) (rest : List Int) : Owns (OrdRA m self rest) := pureA_owns (refO_owns m self rest)
theorem ordR_next (m : Nat) (self : Int) (rest peers : List Int) (draw : Int) (v : Value) (W : World) (H : Nat → Prop) (h : OrdRA m self rest W H) (hs : RowAt elemI W v peers) (hl : peers.length * 8 ≤ 140737488351232) (h0 : 0 ≤ draw) (h1 : draw < 18446744073709551616) :
  Calls Tryz.prog 56 #[.pointer (some ⟨m, 0, none⟩), v, .int .u64 draw] W fun e W' => ∃ u, e = .returned u ∧ SEnd (pureA (u = .int .i64 (nextOf self rest peers draw).1) (OrdRA m self (nextOf self rest peers draw).2)) H W W' := by
 have hself : ∀ k, k = m → H k := by
  rintro k rfl
  obtain ⟨_, v, _, _, hH⟩ := h
  exact (hH k).2 (.inl rfl)
 exact (refNext_any m self rest peers draw v W H h.2 (by have := h.1; omega) (ints_rowAt hs) hl h0 h1).mono fun e W' ⟨he, F', k1, k2, k3⟩ => ⟨_, he, wideE hself ⟨rfl, nextOf_small h.1, k1⟩ k2 k3⟩
end order
end Go.Proofs.YtjbihgfdgaiecaaGreat

/- The landed view, queue, order and clock, as objects side by side. -/
namespace Go.Proofs.YtjbihgfdgaiecaaGreat
open Go Go.RowKit
section view
def Like (V' V : Vw) : Prop := ∀ k, k < 8 → (V' k).i = (V k).i ∧ (V' k).h = (V k).h ∧ ((V k).h ≠ 0 → V' k = V k)
theorem like_zero : Like emptyV view0 := fun k _ => ⟨rfl, rfl, fun h => absurd rfl h⟩
theorem Like.heard {V' V : Vw} (h : Like V' V) (c : Cl) : heardB V' c = heardB V c := by
 unfold heardB
 cases hm : mayK c with
 | false => rfl
 | true =>
  have hn := mayK_node hm
  obtain ⟨h1, h2, _⟩ := h c.n.toNat (by omega)
  unfold cmpK
  rw [h1, h2]
theorem Like.hear {V' V : Vw} (h : Like V' V) (c : Cl) : Like (hearV V' c) (hearV V c) := by
 unfold hearV
 rw [h.heard c]
 split
 ·intro k hk
  unfold putV
  split
  ·exact ⟨rfl, rfl, fun _ => rfl⟩
  ·exact h k hk
 ·exact h
theorem Like.of {V' V : Vw} (h : Like V' V) (n : Int) : ofV V' n = ofV V n := by
 unfold ofV
 split
 ·rename_i hn
  obtain ⟨h1, h2, _⟩ := h n.toNat (by omega)
  rw [h1, h2]
 ·rfl
theorem Like.said {V' V : Vw} (h : Like V' V) : saidV V' = saidV V := by
 unfold saidV saidUp
 rw [List.filter_map, List.filter_map]
 have e : List.filter ((fun c : Cl => c.h != 0) ∘ fun j => V' j) (List.range 8) = List.filter ((fun c : Cl => c.h != 0) ∘ fun j => V j) (List.range 8) := by
  apply List.filter_congr
  intro k hk
  have hk' : k < 8 := List.mem_range.1 hk
  simp only [Function.comp_apply, (h k hk').2.1]
 rw [e]
 apply List.map_congr_left
 intro k hk
 obtain ⟨h1, h2⟩ := List.mem_filter.1 hk
 exact (h k (List.mem_range.1 h1)).2.2 (by simpa using h2)
def ViewBA (b : Nat) (V : Vw) : Asn := fun W H => ((∃ V', ViewAt W b V' ∧ Like V' V) ∧ VwOk V) ∧ ∀ k, H k ↔ k = b
theorem viewBA_owns (b : Nat) (V : Vw) : Owns (ViewBA b V) where
 lt W F h k hk := by
  obtain ⟨⟨⟨V', hv, _⟩, _⟩, hF⟩ := h
  rw [(hF k).1 hk]
  exact hv.lt
 kept W W' F h _ hk := by
  obtain ⟨⟨⟨V', hv, hl⟩, hok⟩, hF⟩ := h
  exact ⟨⟨⟨V', (hk b ((hF b).2 rfl)).trans hv, hl⟩, hok⟩, hF⟩
theorem viewB_hear (b : Nat) (V : Vw) (c : Cl) : Trip Tryz.prog 30 #[.pointer (some ⟨b, 0, none⟩), c.val] (ViewBA b V) fun u => pureA (u = .bool (heardB V c)) (ViewBA b (hearV V c)) := by
 rintro W H ⟨⟨⟨V', hv, hl⟩, hok⟩, hF⟩
 refine (hear_any b V' c W hv).mono fun e W' ⟨he, h1, h2⟩ => ⟨_, he, fun k => k = b, ⟨by rw [hl.heard], ⟨⟨_, h1, hl.hear c⟩, hok.hear c⟩, fun _ => Iff.rfl⟩, Fr.of_grownBy h2 fun j hj => .inl ((hF j).2 (by simpa using hj.symm)), fun k hk => .inl ((hF k).2 hk)⟩
theorem viewB_of (b : Nat) (V : Vw) (n : Int) (W : World) (H : Nat → Prop) (h : ViewBA b V W H) : Gives Tryz.prog 59 #[.pointer (some ⟨b, 0, none⟩), .int .i64 n] W (ofV V n).val := by
 obtain ⟨⟨⟨V', hv, hl⟩, _⟩, _⟩ := h
 exact (of_any b V' n W hv).cast (by rw [hl.of])
theorem viewB_all (b : Nat) (V : Vw) (W : World) (H : Nat → Prop) (h : ViewBA b V W H) : Calls Tryz.prog 58 #[.pointer (some ⟨b, 0, none⟩)] W fun e W' => ∃ v, e = .returned v ∧ MadeE elemCl W W' v (saidV V) := by
 obtain ⟨⟨⟨V', hv, hl⟩, _⟩, _⟩ := h
 exact (all_any b V' W hv).mono fun e W' ⟨v, he, h1, h2⟩ => ⟨v, he, by rw [hl.said] at h1; exact h1, h2⟩
end view
section queue
def QueBA (q : Nat) (L : List Td) : Asn := fun W H => ∃ R, RumQ q 3 R W H ∧ IsHeap lessT R.length R ∧ R.Perm L ∧ FineQ L
theorem queBA_owns (q : Nat) (L : List Td) : Owns (QueBA q L) where
 lt W F h := by obtain ⟨R, h, _⟩ := h; exact (rumQ_owns q 3 R).lt W F h
 kept W W' F h hs hk := by obtain ⟨R, h, h2⟩ := h; exact ⟨R, (rumQ_owns q 3 R).kept W W' F h hs hk, h2⟩
theorem queB_put (q : Nat) (L : List Td) (c : Cl) : Trip Tryz.prog 66 #[.pointer (some ⟨q, 0, none⟩), c.val] (QueBA q L) fun u => pureA (u = .bool (putOf L c).2) (QueBA q (qput L c)) := by
 rintro W H ⟨R, h, hh, hp, hL⟩
 have hl := hp.length_eq
 have hl8 := hL.len
 obtain ⟨e1, e2⟩ := qput_of hp hL c
 exact (putR_any q 3 R c W H h hh (by omega)).mono fun e W' ⟨he, R', hpm, hh', F', h1, h2, h3⟩ => ⟨_, he, F', ⟨by rw [e1], R', h1, hh', hpm.trans e2, hL.put c⟩, h2, h3⟩
theorem queB_take (q : Nat) (L : List Td) : Trip Tryz.prog 92 #[.pointer (some ⟨q, 0, none⟩), .int .i64 2] (QueBA q L) fun u => star (RowO elemCl u ((qout L).map Td.c)) (QueBA q (qrest L)) := by
 rintro W H ⟨R, h, hh, hp, hL⟩
 have hfR := hL.fine.perm hp.symm
 refine (takeR_any q 3 R 2 W H h hh (by have := hfR.len; omega) hfR.once (fun t ht => by have := (hfR.good t ht).2.2; omega)).mono ?_
 rintro e W' ⟨u, O, rem, R', F', he, hpk, hc, hrow, hap, hh', hpm, hr', hfr, hs⟩
 obtain ⟨rfl, hrem⟩ := qtake_of hp hL hpk hc
 exact ⟨u, he, row_beside (queBA_owns q _) (by rw [List.length_map]; exact hrow) ⟨R', hr', hh', hpm.trans ((hrem.append_right _).trans (srtT_perm _).symm), hL.rest⟩ hfr hs hap⟩
end queue
section order
def OrdBA (m : Nat) (self : Int) (rest : List Int) : Asn := pureA (rest.length ≤ 64) (ProO m self rest)
theorem ordBA_owns (m : Nat) (self : Int) (rest : List Int) : Owns (OrdBA m self rest) := pureA_owns (proO_owns m self rest)
theorem ordB_next (m : Nat) (self : Int) (rest peers : List Int) (draw : Int) (v : Value) (W : World) (H : Nat → Prop) (h : OrdBA m self rest W H) (hs : RowAt elemI W v peers) (hl : peers.length * 8 ≤ 140737488351232) (h0 : 0 ≤ draw) (h1 : draw < 18446744073709551616) :
  Calls Tryz.prog 78 #[.pointer (some ⟨m, 0, none⟩), v, .int .u64 draw] W fun e W' => ∃ u, e = .returned u ∧ SEnd (pureA (u = .int .i64 (nextOf self rest peers draw).1) (OrdBA m self (nextOf self rest peers draw).2)) H W W' :=
 (nextP_any m self rest peers draw v W H h.2 (by have := h.1; omega) (ints_rowAt hs) hl h0 h1).mono fun e W' ⟨he, F', k1, k2, k3⟩ => ⟨_, he, F', ⟨rfl, nextOf_small h.1, k1⟩, k2, k3⟩
end order
section clock
def ClkBA (m : Nat) (L : List Mo) : Asn := pureA (FineM L) (ClkOwn m L)
theorem clkOwn_owns (m : Nat) (L : List Mo) : Owns (ClkOwn m L) where
 lt W F h := by obtain ⟨K, h1, _⟩ := h; exact (clkQ_owns m K).lt W F h1
 kept W W' F h hs hk := by obtain ⟨K, h1, h2⟩ := h; exact ⟨K, (clkQ_owns m K).kept W W' F h1 hs hk, h2⟩
theorem clkBA_owns (m : Nat) (L : List Mo) : Owns (ClkBA m L) := pureA_owns (clkOwn_owns m L)
theorem clkB_of {m : Nat} {L : List Mo} {p : Prop} {H : Nat → Prop} {W W' : World} (hf : FineM L) (hp : p) (h : WEnd ClkOwn m L H W W') : SEnd (pureA p (ClkBA m L)) H W W' := by
 obtain ⟨F', h1, h2, h3⟩ := h
 exact ⟨F', ⟨hp, hf, h1⟩, h2, h3⟩
theorem clkB_set (m : Nat) (L : List Mo) (n t : Int) : Trip Tryz.prog 80 #[.pointer (some ⟨m, 0, none⟩), .int .i64 n, .int .i64 t] (ClkBA m L) fun u => pureA (u = .bool (okM ⟨n, t⟩)) (ClkBA m (aftSet L ⟨n, t⟩)) := by
 rintro W H ⟨hf, K, h1, h2, h3⟩
 have hl : K.length ≤ 1000 := by rw [h2.length_eq]; exact hf.len
 have ho : OnceM K := once_perm' h2.symm hf.once
 have hfa : FineM (aftSet L ⟨n, t⟩) := by
  unfold aftSet
  split
  ·rename_i hx; exact hf.set hx
  ·exact hf
 cases hm : okM ⟨n, t⟩ with
 | false =>
  refine (setK_bad m n t W hm).mono fun e w' ⟨he, x, hx⟩ => ⟨_, he, clkB_of hfa rfl ?_⟩
  subst hx
  unfold aftSet
  rw [hm]
  exact clkOwn_later ⟨K, h1, h2, h3⟩ x
 | true =>
  have hd : ∀ Y w', Y.Perm (⟨n, t⟩ :: cutM K n) → KPut m Y H W w' → WEnd ClkOwn m (aftSet L ⟨n, t⟩) H W w' := fun Y w' hY hp => by
   unfold aftSet
   rw [hm, if_pos rfl]
   exact clkOwn_end hp (hY.trans (set_perm h2 ⟨n, t⟩))
  rcases ix_of h2 ho n with ⟨hn, ha⟩ | ⟨k, u, hn, hk, ha, hu⟩
  ·refine (setK_new m K n t W H h1 h3 hl hm ha).mono fun e w' ⟨he, hp⟩ => ⟨_, he, clkB_of hfa rfl (hd _ w' ?_ hp)⟩
   rw [cut_none (by rw [hasM_perm h2 ho]; exact hn)]
   exact List.perm_append_singleton _ _
  ·refine (setK_again m K n t W H h1 h3 hl hm k u hk hu ha).mono fun e w' ⟨he, hp⟩ => ⟨_, he, clkB_of hfa rfl (hd _ w' ?_ hp)⟩
   subst hu
   exact set_at ho hk t
theorem clkB_cut (m : Nat) (L : List Mo) (n : Int) : Trip Tryz.prog 71 #[.pointer (some ⟨m, 0, none⟩), .int .i64 n] (ClkBA m L) fun u => pureA (u = .bool (hasM L n).isSome) (ClkBA m (cutM L n)) := by
 rintro W H ⟨hf, K, h1, h2, h3⟩
 have hl : K.length ≤ 1000 := by rw [h2.length_eq]; exact hf.len
 have ho : OnceM K := once_perm' h2.symm hf.once
 rcases ix_of h2 ho n with ⟨hn, ha⟩ | ⟨k, u, hn, hk, ha, hu⟩
 ·refine (cutK_none m K n W H h1 hl ha).mono fun e w' ⟨he, x, hx⟩ => ⟨_, he, clkB_of (hf.cut n) (by rw [hn]; rfl) ?_⟩
  subst hx
  rw [cut_none hn]
  exact clkOwn_later ⟨K, h1, h2, h3⟩ x
 ·refine (cutK_one m K n W H h1 h3 hl k u hk ha).mono fun e w' ⟨he, K', hp, hi, F', h4, h5, h6⟩ => ⟨_, he, clkB_of (hf.cut n) (by rw [hn]; rfl) ⟨F', ⟨K', h4, ?_, hi⟩, h5, h6⟩⟩
  exact List.Perm.cons_inv ((hp.trans h2).trans (cut_split hf.once hn))
theorem clkB_due (m : Nat) (L : List Mo) (now : Int) : Trip Tryz.prog 50 #[.pointer (some ⟨m, 0, none⟩), .int .i64 now] (ClkBA m L) fun u => star (RowO elemI u ((dueM L now).map Mo.n)) (ClkBA m (restM L now)) := by
 rintro W H ⟨hf, K, h1, h2, h3⟩
 refine (dueK_any m L now W H K h1 h2 h3 hf.sorted hf.len).mono ?_
 rintro e w' ⟨v, done, K', H', he, rfl, hd⟩
 have hl : (dueM L now).length = ((dueM L now).map Mo.n).length := by rw [List.length_map]
 have hr := row_rebase hd.row fun b hb => (hd.own b hb).1
 rw [hl] at hr
 exact ⟨v, he, row_beside (clkBA_owns m _) hr ⟨hf.rest now, K', hd.clock, hd.perm, hd.heap⟩ hd.fr hd.sub fun k hk => (hd.own k hk).2⟩
end clock
end Go.Proofs.YtjbihgfdgaiecaaGreat

/- The reference's detector: what it holds. -/
namespace Go.Proofs.YtjbihgfdgaiecaaGreat
open Go Go.RowKit
def bptr (b : Nat) : Value := .pointer (some ⟨b, 0, none⟩)
def detCells (s : DS) (pv pq po pc : Nat) : Array Value := #[.int .i64 s.self, .int .i64 s.inc, .int .i64 s.now, .int .i64 s.seq, .int .i64 s.asked, .bool s.over, .bool s.left, bptr pv, bptr pq, bptr po, bptr pc]
abbrev detO (s : DS) (pv pq po pc : Nat) : Obj := .cells (detCells s pv pq po pc) 63 (0, 0)
abbrev RP (d : Nat) (s : DS) (pv pq po pc : Nat) : Asn := star (BoxA d (detO s pv pq po pc)) (star (ViewRA pv s.V) (star (QueRA pq s.Q) (star (OrdRA po s.self s.O) (ClkRA pc s.C))))
theorem rp_owns (d : Nat) (s : DS) (pv pq po pc : Nat) : Owns (RP d s pv pq po pc) := star_owns (box_owns _ _) (star_owns (viewRA_owns _ _) (star_owns (queRA_owns _ _) (star_owns (ordRA_owns _ _ _) (clkRA_owns _ _))))
structure DsOk (s : DS) : Prop where
 self : 0 ≤ s.self ∧ s.self < 8
 inc : 0 ≤ s.inc ∧ s.inc ≤ 1000000
 now : 0 ≤ s.now ∧ s.now ≤ 100000
 seq : 0 ≤ s.seq ∧ s.seq ≤ 1000000
 asked : -1 ≤ s.asked ∧ s.asked < 8
def RDet (d : Nat) (s : DS) : Asn := fun W H => DsOk s ∧ ∃ pv pq po pc, RP d s pv pq po pc W H
theorem rdet_owns (d : Nat) (s : DS) : Owns (RDet d s) where
 lt W F h := by obtain ⟨_, pv, pq, po, pc, h⟩ := h; exact (rp_owns d s pv pq po pc).lt W F h
 kept W W' F h hs hk := by obtain ⟨h0, pv, pq, po, pc, h⟩ := h; exact ⟨h0, pv, pq, po, pc, (rp_owns d s pv pq po pc).kept W W' F h hs hk⟩
structure DetAt (W : World) (d : Nat) (s : DS) (pv pq po pc : Nat) : Prop where
 lt : d < W.heap.size
 c0 : W.cell? ⟨d, 0, none⟩ = some (.int .i64 s.self)
 c1 : W.cell? ⟨d, 1, none⟩ = some (.int .i64 s.inc)
 c2 : W.cell? ⟨d, 2, none⟩ = some (.int .i64 s.now)
 c3 : W.cell? ⟨d, 3, none⟩ = some (.int .i64 s.seq)
 c4 : W.cell? ⟨d, 4, none⟩ = some (.int .i64 s.asked)
 c5 : W.cell? ⟨d, 5, none⟩ = some (.bool s.over)
 c6 : W.cell? ⟨d, 6, none⟩ = some (.bool s.left)
 c7 : W.cell? ⟨d, 7, none⟩ = some (bptr pv)
 c8 : W.cell? ⟨d, 8, none⟩ = some (bptr pq)
 c9 : W.cell? ⟨d, 9, none⟩ = some (bptr po)
 c10 : W.cell? ⟨d, 10, none⟩ = some (bptr pc)
 f : ∀ j, W.frozen? ⟨d, j, none⟩ = false
theorem detAt {W : World} {d : Nat} {s : DS} {pv pq po pc : Nat} (h : W.heap[d]? = some (detO s pv pq po pc)) : DetAt W d s pv pq po pc := by
 have hc : ∀ j, W.cell? ⟨d, j, none⟩ = (detCells s pv pq po pc)[j]? := fun j => by simp [World.cell?, h]
 exact ⟨(Array.getElem?_eq_some_iff.1 h).1, hc 0, hc 1, hc 2, hc 3, hc 4, hc 5, hc 6, hc 7, hc 8, hc 9, hc 10, fun j => by simp [World.frozen?, h]⟩
section
variable {w W : World} {H0 : Nat → Prop} {B : Asn} {d pv pq po pc : Nat} {s : DS}
theorem rp_at (h : SEnd (star B (RP d s pv pq po pc)) H0 w W) : DetAt W d s pv pq po pc := detAt (SEnd.at h.swap)
theorem rp_at0 (h : SEnd (RP d s pv pq po pc) H0 w W) : DetAt W d s pv pq po pc := detAt (SEnd.at h)
theorem rp_hear (hB : Owns B) (h : SEnd (star B (RP d s pv pq po pc)) H0 w W) (c : Cl) (S : Nat → Prop) (hS : ∀ W H2, B W H2 → ∀ k, S k → H2 k) :
  Calls Tryz.prog 35 #[bptr pv, c.val] W fun e W' => ∃ u, e = .returned u ∧ (u = .bool (heardB s.V c) ∧ SEnd (star B (RP d { s with V := hearV s.V c } pv pq po pc)) H0 w W' ∧ GK (fun k => k = d ∨ S k) W W') :=
 SEnd.callP h (P := ViewRA pv s.V) (Q := star (BoxA d (detO s pv pq po pc)) (star B (star (QueRA pq s.Q) (star (OrdRA po s.self s.O) (ClkRA pc s.C))))) (P' := ViewRA pv (hearV s.V c))
  (fun W H h => star_in3 (star_swap h)) (star_owns (box_owns _ _) (star_owns hB (star_owns (queRA_owns _ _) (star_owns (ordRA_owns _ _ _) (clkRA_owns _ _))))) (hearRV_any pv s.V c) _
  (cov2 fun W H2 ⟨H3, H4, h1, h2, _, he⟩ k hk => (he k).2 (.inl (hS W H3 h1 k hk))) (fun W H h => star_swap (star_out3 h))
theorem rp_put (hB : Owns B) (h : SEnd (star B (RP d s pv pq po pc)) H0 w W) (c : Cl) (S : Nat → Prop) (hS : ∀ W H2, B W H2 → ∀ k, S k → H2 k) :
  Calls Tryz.prog 42 #[bptr pq, c.val] W fun e W' => ∃ u, e = .returned u ∧ (u = .bool (putOf s.Q c).2 ∧ SEnd (star B (RP d { s with Q := qput s.Q c } pv pq po pc)) H0 w W' ∧ GK (fun k => k = d ∨ S k) W W') :=
 SEnd.callP h (P := QueRA pq s.Q) (Q := star (BoxA d (detO s pv pq po pc)) (star B (star (ViewRA pv s.V) (star (OrdRA po s.self s.O) (ClkRA pc s.C))))) (P' := QueRA pq (qput s.Q c))
  (fun W H h => star_in4 (star_swap h)) (star_owns (box_owns _ _) (star_owns hB (star_owns (viewRA_owns _ _) (star_owns (ordRA_owns _ _ _) (clkRA_owns _ _))))) (queR_put pq s.Q c) _
  (cov2 fun W H2 ⟨H3, H4, h1, h2, _, he⟩ k hk => (he k).2 (.inl (hS W H3 h1 k hk))) (fun W H h => star_swap (star_out4 h))
theorem star_last {A B C D E : Asn} {W : World} {H : Nat → Prop} (h : star A (star B (star C (star D E))) W H) : star E (star A (star B (star C D))) W H :=
 star_in4 (star_mono (fun _ h => h) (fun _ h => star_mono (fun _ h => h) (fun _ h => star_mono (fun _ h => h) (fun _ h => star_comm h) h) h) h) |> fun h => star_mono (fun _ h => h) (fun _ h => h) h
theorem star_unlast {A B C D E : Asn} {W : World} {H : Nat → Prop} (h : star E (star A (star B (star C D))) W H) : star A (star B (star C (star D E))) W H :=
 star_mono (fun _ h => h) (fun _ h => star_mono (fun _ h => h) (fun _ h => star_mono (fun _ h => h) (fun _ h => star_comm h) h) h) (star_out4 h)
theorem rp_set (hB : Owns B) (h : SEnd (star B (RP d s pv pq po pc)) H0 w W) (n t : Int) (S : Nat → Prop) (hS : ∀ W H2, B W H2 → ∀ k, S k → H2 k) :
  Calls Tryz.prog 57 #[bptr pc, .int .i64 n, .int .i64 t] W fun e W' => ∃ u, e = .returned u ∧ (u = .bool (okM ⟨n, t⟩) ∧ SEnd (star B (RP d { s with C := aftSet s.C ⟨n, t⟩ } pv pq po pc)) H0 w W' ∧ GK (fun k => k = d ∨ S k) W W') :=
 SEnd.callP h (P := ClkRA pc s.C) (Q := star (BoxA d (detO s pv pq po pc)) (star B (star (ViewRA pv s.V) (star (QueRA pq s.Q) (OrdRA po s.self s.O))))) (P' := ClkRA pc (aftSet s.C ⟨n, t⟩))
  (fun W H h => star_in2 (star_mono (fun _ h => h) (fun _ h => star_last h) (star_swap h)) |> fun h => h) (star_owns (box_owns _ _) (star_owns hB (star_owns (viewRA_owns _ _) (star_owns (queRA_owns _ _) (ordRA_owns _ _ _))))) (clkR_set pc s.C n t) _
  (cov2 fun W H2 ⟨H3, H4, h1, h2, _, he⟩ k hk => (he k).2 (.inl (hS W H3 h1 k hk))) (fun W H h => star_swap (star_mono (fun _ h => h) (fun _ h => star_unlast h) (star_swap h)))
theorem rp_cut (hB : Owns B) (h : SEnd (star B (RP d s pv pq po pc)) H0 w W) (n : Int) (S : Nat → Prop) (hS : ∀ W H2, B W H2 → ∀ k, S k → H2 k) :
  Calls Tryz.prog 48 #[bptr pc, .int .i64 n] W fun e W' => ∃ u, e = .returned u ∧ (u = .bool (hasM s.C n).isSome ∧ SEnd (star B (RP d { s with C := cutM s.C n } pv pq po pc)) H0 w W' ∧ GK (fun k => k = d ∨ S k) W W') :=
 SEnd.callP h (P := ClkRA pc s.C) (Q := star (BoxA d (detO s pv pq po pc)) (star B (star (ViewRA pv s.V) (star (QueRA pq s.Q) (OrdRA po s.self s.O))))) (P' := ClkRA pc (cutM s.C n))
  (fun W H h => star_in2 (star_mono (fun _ h => h) (fun _ h => star_last h) (star_swap h))) (star_owns (box_owns _ _) (star_owns hB (star_owns (viewRA_owns _ _) (star_owns (queRA_owns _ _) (ordRA_owns _ _ _))))) (clkR_cut pc s.C n) _
  (cov2 fun W H2 ⟨H3, H4, h1, h2, _, he⟩ k hk => (he k).2 (.inl (hS W H3 h1 k hk))) (fun W H h => star_swap (star_mono (fun _ h => h) (fun _ h => star_unlast h) (star_swap h)))
theorem rp_of (h : SEnd (star B (RP d s pv pq po pc)) H0 w W) (n : Int) : Gives Tryz.prog 24 #[bptr pv, .int .i64 n] W (ofV s.V n).val := by
 obtain ⟨H, hs, _⟩ := h
 obtain ⟨_, _, _, ⟨_, _, _, ⟨_, _, hv, _⟩, _⟩, _⟩ := hs
 exact ofRV_any pv s.V n W _ hv
theorem rp_store (hB : Owns B) (h : SEnd (star B (RP d s pv pq po pc)) H0 w W) (off : Nat) (v : Value) (s' : DS) (hc : (detCells s pv pq po pc).setIfInBounds off v = detCells s' pv pq po pc) (hV : s'.V = s.V) (hQ : s'.Q = s.Q) (hO : s'.O = s.O) (hs : s'.self = s.self) (hC : s'.C = s.C) : SEnd (star B (RP d s' pv pq po pc)) H0 w (W.setCell ⟨d, off, none⟩ v) := by
 have h1 := SEnd.store (off := off) (star_owns hB (star_owns (viewRA_owns pv s.V) (star_owns (queRA_owns pq s.Q) (star_owns (ordRA_owns po s.self s.O) (clkRA_owns pc s.C))))) h.swap v
 rw [hc] at h1
 have h2 := h1.swap
 show SEnd (star B (star (BoxA d (detO s' pv pq po pc)) (star (ViewRA pv s'.V) (star (QueRA pq s'.Q) (star (OrdRA po s'.self s'.O) (ClkRA pc s'.C)))))) H0 w _
 rw [hV, hQ, hO, hs, hC]
 exact h2
end
end Go.Proofs.YtjbihgfdgaiecaaGreat

/- The reference's detector: to hear a claim. -/
namespace Go.Proofs.YtjbihgfdgaiecaaGreat
open Go Go.RowKit Go.BigFrame
def HearEnd (d : Nat) (s : DS) (c : Cl) (H : Nat → Prop) (w : World) (e : Ending) (w' : World) : Prop := ∃ u, e = .returned u ∧ SEnd (pureA (u = .int .i64 (hearD s c).2) (RDet d (hearD s c).1)) H w w'
theorem boxCl {W : World} {q : Nat} {n i h : Int} (e : W.heap[q]? = some (.cells #[.int .i64 n, .int .i64 i, .int .i64 h] 30)) : W.cell? ⟨q, 0, none⟩ = some (.int .i64 n) ∧ W.cell? ⟨q, 1, none⟩ = some (.int .i64 i) ∧ W.cell? ⟨q, 2, none⟩ = some (.int .i64 h) := by
 refine ⟨?_, ?_, ?_⟩ <;> simp [World.cell?, e]
theorem refN_range {self inc n i h : Int} (h0 : 0 ≤ self ∧ self < 8) (h1 : 0 ≤ inc ∧ inc ≤ 1000000) (he : refE self inc n i h = 0) : 0 ≤ refN self inc n i h ∧ refN self inc n i h ≤ 1000000 := by
 unfold refE at he
 unfold refN
 split
 ·omega
 ·rename_i hh
  rw [if_neg hh] at he
  split
  ·exact h1
  ·rename_i h2
   rw [if_neg h2] at he
   split
   ·exact h1
   ·simp only [Classical.not_not] at hh
    omega
theorem dsOk_hear {s : DS} (h : DsOk s) (c : Cl) : DsOk (hearD s c).1 := by
 unfold hearD
 split
 ·split
  ·exact ⟨h.self, h.inc, h.now, h.seq, h.asked⟩
  ·rename_i he
   split
   ·exact ⟨h.self, refN_range h.self h.inc (by simpa using he), h.now, h.seq, h.asked⟩
   ·exact h
 ·split
  ·exact ⟨h.self, h.inc, h.now, h.seq, h.asked⟩
  ·exact h
theorem hear_fin {d : Nat} {s s' : DS} {c : Cl} {e : Int} {B : Asn} {H : Nat → Prop} {w W' : World} {pv pq po pc : Nat} (hok : DsOk s) (he : hearD s c = (s', e)) (hs : SEnd (star B (RP d s' pv pq po pc)) H w W') : HearEnd d s c H w (.returned (.int .i64 e)) W' := by
 have h1 := dsOk_hear hok c
 unfold HearEnd
 rw [he] at h1 ⊢
 exact ⟨_, rfl, hs.drop.mono fun _ h => ⟨rfl, h1, pv, pq, po, pc, h⟩⟩
set_option maxHeartbeats 4000000 in
set_option maxRecDepth 100000 in
theorem hearRD_over (d : Nat) (s : DS) (n i h : Int) (w : World) (H : Nat → Prop) (hp0 : RDet d s w H) (hn : n = s.self) (e : Int) (r : Int) (hr : refN s.self s.inc n i h = r) (he : refE s.self s.inc n i h = e) (he0 : e ≠ 0) : Calls Tryz.prog 40 #[bptr d, .agg #[.int .i64 n, .int .i64 i, .int .i64 h]] w (HearEnd d s ⟨n, i, h⟩ H w) := by
 obtain ⟨hok, pv, pq, po, pc, hp⟩ := hp0
 have HFin : Hid (∀ (e : Int) (s' : DS) (B : Asn) (W' : World), hearD s ⟨n, i, h⟩ = (s', e) → SEnd (star B (RP d s' pv pq po pc)) H w W' → HearEnd d s ⟨n, i, h⟩ H w (.returned (.int .i64 e)) W') := Lib.hid fun e s' B W' he hs => hear_fin hok he hs
 have hs1 := SEnd.box (rp_owns d s pv pq po pc) (sEnd_refl hp) (.cells #[.int .i64 n, .int .i64 i, .int .i64 h] 30)
 have hbx : (w.alloc (.cells #[.int .i64 n, .int .i64 i, .int .i64 h] 30)).heap[w.heap.size]? = some (.cells #[.int .i64 n, .int .i64 i, .int .i64 h] 30) := heap_alloc_new w _
 clear hp
 have HD : Hid (hearD s ⟨n, i, h⟩ = ({ s with over := true }, e)) := Lib.hid (by unfold hearD; dsimp only; rw [if_pos hn, he, if_pos he0])
 have HR : Hid (∀ W, Gives Tryz.prog 68 #[.int .i64 s.self, .int .i64 s.inc, .agg #[.int .i64 n, .int .i64 i, .int .i64 h]] W (.tuple #[.int .i64 r, .int .i64 e])) := Lib.hid fun W => (refRefute_any s.self s.inc n i h W).cast (by rw [hr, he])
 have g0 : (n == s.self) = true := by simpa using hn
 have g1 : (e != 0) = true := by simpa using he0
 clear hn hr he
 unfold bptr
 go_enter Tryz.func40, Tryz.ntmps40
 go_upto_region 1 with fail
 obtain ⟨q, hq⟩ : ∃ q, w.heap.size = q := ⟨_, rfl⟩
 obtain ⟨W1, hW1⟩ : ∃ W, w.alloc (.cells #[.int .i64 n, .int .i64 i, .int .i64 h] 30) = W := ⟨_, rfl⟩
 rw [hq, hW1] at hs1 hbx
 rw [hq, hW1]
 have HS1 := Lib.hid hs1
 have hd := rp_at hs1
 obtain ⟨b0, b1, b2⟩ := boxCl hbx
 have hlt := hd.lt
 have d0 := hd.c0
 have d1 := hd.c1
 have hql : q < W1.heap.size := (Array.getElem?_eq_some_iff.1 hbx).1
 clear hs1 hbx hq hW1 hd
 go_quiet (fail)
 go_wp2_with fail
 have hs2 := SEnd.below (star_owns (box_owns _ _) (rp_owns d s pv pq po pc)) HS1.out (ext_drewN (ext_refl W1) nq)
 clear d0 d1 b0 b1 b2 hlt hql HS1
 obtain ⟨W2, hW2⟩ : ∃ W, W1.drewN nq = W := ⟨_, rfl⟩
 rw [hW2] at hs2 ⊢
 have HS1 := Lib.hid hs2
 have hd := rp_at hs2
 obtain ⟨b0, b1, b2⟩ := boxCl (SEnd.at hs2)
 have hql : q < W2.heap.size := (Array.getElem?_eq_some_iff.1 (SEnd.at hs2)).1
 have hlt := hd.lt
 have d0 := hd.c0
 have d1 := hd.c1
 clear hs2 hW2 hd
 refine wp_region_later (by kernel_rfl) (by kernel_rfl) ?_
 repeat (go_big_quiet_step (first | (go_at_call 68; with_reducible exact later_of (HR.out _))))
 refine wpQuiet_nil ?_
 rintro _ ⟨x2, rfl⟩
 have HS2 := Lib.hid (SEnd.later (star_owns (box_owns _ _) (rp_owns d s pv pq po pc)) HS1.out x2)
 have hd := rp_at HS2.out
 have f5 := hd.f 5
 have d5 := hd.c5
 have hlt2 := hd.lt
 clear hd
 go_wp2_with fail
 go_ret
 exact HFin.out e _ _ _ HD.out (rp_store (box_owns _ _) HS2.out 5 (.bool true) { s with over := true } rfl rfl rfl rfl rfl rfl)
set_option maxHeartbeats 4000000 in
set_option maxRecDepth 100000 in
theorem hearRD_low (d : Nat) (s : DS) (n i h : Int) (w : World) (H : Nat → Prop) (hp0 : RDet d s w H) (hn : n = s.self) (r : Int) (hr : refN s.self s.inc n i h = r) (he : refE s.self s.inc n i h = 0) (hlow : ¬ s.inc < r) : Calls Tryz.prog 40 #[bptr d, .agg #[.int .i64 n, .int .i64 i, .int .i64 h]] w (HearEnd d s ⟨n, i, h⟩ H w) := by
 obtain ⟨hok, pv, pq, po, pc, hp⟩ := hp0
 have HFin : Hid (∀ (e : Int) (s' : DS) (B : Asn) (W' : World), hearD s ⟨n, i, h⟩ = (s', e) → SEnd (star B (RP d s' pv pq po pc)) H w W' → HearEnd d s ⟨n, i, h⟩ H w (.returned (.int .i64 e)) W') := Lib.hid fun e s' B W' he hs => hear_fin hok he hs
 have hs1 := SEnd.box (rp_owns d s pv pq po pc) (sEnd_refl hp) (.cells #[.int .i64 n, .int .i64 i, .int .i64 h] 30)
 have hbx : (w.alloc (.cells #[.int .i64 n, .int .i64 i, .int .i64 h] 30)).heap[w.heap.size]? = some (.cells #[.int .i64 n, .int .i64 i, .int .i64 h] 30) := heap_alloc_new w _
 clear hp
 have HD : Hid (hearD s ⟨n, i, h⟩ = (s, 0)) := Lib.hid (by unfold hearD; dsimp only; rw [if_pos hn, he, if_neg (by simp), hr, if_neg hlow])
 have HR : Hid (∀ W, Gives Tryz.prog 68 #[.int .i64 s.self, .int .i64 s.inc, .agg #[.int .i64 n, .int .i64 i, .int .i64 h]] W (.tuple #[.int .i64 r, .int .i64 0])) := Lib.hid fun W => (refRefute_any s.self s.inc n i h W).cast (by rw [hr, he])
 have g0 : (n == s.self) = true := by simpa using hn
 have g2 : decide (s.inc < r) = false := decide_eq_false hlow
 clear hn hr he
 unfold bptr
 go_enter Tryz.func40, Tryz.ntmps40
 go_upto_region 1 with fail
 obtain ⟨q, hq⟩ : ∃ q, w.heap.size = q := ⟨_, rfl⟩
 obtain ⟨W1, hW1⟩ : ∃ W, w.alloc (.cells #[.int .i64 n, .int .i64 i, .int .i64 h] 30) = W := ⟨_, rfl⟩
 rw [hq, hW1] at hs1 hbx
 rw [hq, hW1]
 have HS1 := Lib.hid hs1
 have hd := rp_at hs1
 obtain ⟨b0, b1, b2⟩ := boxCl hbx
 have hlt := hd.lt
 have d0 := hd.c0
 have d1 := hd.c1
 have hql : q < W1.heap.size := (Array.getElem?_eq_some_iff.1 hbx).1
 clear hs1 hbx hq hW1 hd
 go_quiet (fail)
 go_wp2_with fail
 have hs2 := SEnd.below (star_owns (box_owns _ _) (rp_owns d s pv pq po pc)) HS1.out (ext_drewN (ext_refl W1) nq)
 clear d0 d1 b0 b1 b2 hlt hql HS1
 obtain ⟨W2, hW2⟩ : ∃ W, W1.drewN nq = W := ⟨_, rfl⟩
 rw [hW2] at hs2 ⊢
 have HS1 := Lib.hid hs2
 have hd := rp_at hs2
 obtain ⟨b0, b1, b2⟩ := boxCl (SEnd.at hs2)
 have hql : q < W2.heap.size := (Array.getElem?_eq_some_iff.1 (SEnd.at hs2)).1
 have hlt := hd.lt
 have d0 := hd.c0
 have d1 := hd.c1
 clear hs2 hW2 hd
 refine wp_region_later (by kernel_rfl) (by kernel_rfl) ?_
 repeat (go_big_quiet_step (first | (go_at_call 68; with_reducible exact later_of (HR.out _))))
 refine wpQuiet_nil ?_
 rintro _ ⟨x2, rfl⟩
 have HS2 := Lib.hid (SEnd.later (star_owns (box_owns _ _) (rp_owns d s pv pq po pc)) HS1.out x2)
 go_wp2_with fail
 go_ret
 exact HFin.out 0 _ _ _ HD.out HS2.out
set_option maxHeartbeats 4000000 in
set_option maxRecDepth 100000 in
theorem hearRD_no (d : Nat) (s : DS) (n i h : Int) (w : World) (H : Nat → Prop) (hp0 : RDet d s w H) (hn : n ≠ s.self) (hh : heardB s.V ⟨n, i, h⟩ = false) : Calls Tryz.prog 40 #[bptr d, .agg #[.int .i64 n, .int .i64 i, .int .i64 h]] w (HearEnd d s ⟨n, i, h⟩ H w) := by
 obtain ⟨hok, pv, pq, po, pc, hp⟩ := hp0
 have HFin : Hid (∀ (e : Int) (s' : DS) (B : Asn) (W' : World), hearD s ⟨n, i, h⟩ = (s', e) → SEnd (star B (RP d s' pv pq po pc)) H w W' → HearEnd d s ⟨n, i, h⟩ H w (.returned (.int .i64 e)) W') := Lib.hid fun e s' B W' he hs => hear_fin hok he hs
 have hs1 := SEnd.box (rp_owns d s pv pq po pc) (sEnd_refl hp) (.cells #[.int .i64 n, .int .i64 i, .int .i64 h] 30)
 have hbx : (w.alloc (.cells #[.int .i64 n, .int .i64 i, .int .i64 h] 30)).heap[w.heap.size]? = some (.cells #[.int .i64 n, .int .i64 i, .int .i64 h] 30) := heap_alloc_new w _
 clear hp
 have HD : Hid (hearD s ⟨n, i, h⟩ = (s, 0)) := Lib.hid (by unfold hearD; dsimp only; rw [if_neg hn, if_neg (by simp [hh])])
 have HV : Hid ({ s with V := hearV s.V ⟨n, i, h⟩ } = s) := Lib.hid (by unfold hearV; rw [hh]; rfl)
 have HH := Lib.hid hh
 have g0 : (n == s.self) = false := by rw [beq_eq_false_iff_ne]; exact hn
 clear hn hh
 unfold bptr
 go_enter Tryz.func40, Tryz.ntmps40
 go_upto_region 1 with fail
 obtain ⟨q, hq⟩ : ∃ q, w.heap.size = q := ⟨_, rfl⟩
 obtain ⟨W1, hW1⟩ : ∃ W, w.alloc (.cells #[.int .i64 n, .int .i64 i, .int .i64 h] 30) = W := ⟨_, rfl⟩
 rw [hq, hW1] at hs1 hbx
 rw [hq, hW1]
 have HS1 := Lib.hid hs1
 have hd := rp_at hs1
 obtain ⟨b0, b1, b2⟩ := boxCl hbx
 have hlt := hd.lt
 have d0 := hd.c0
 have d1 := hd.c1
 have hql : q < W1.heap.size := (Array.getElem?_eq_some_iff.1 hbx).1
 clear hs1 hbx hq hW1 hd
 go_quiet (fail)
 go_wp2_with fail
 have hs2 := SEnd.below (star_owns (box_owns _ _) (rp_owns d s pv pq po pc)) HS1.out (ext_drewN (ext_refl W1) nq)
 clear d0 d1 b0 b1 b2 hlt hql HS1
 obtain ⟨W2, hW2⟩ : ∃ W, W1.drewN nq = W := ⟨_, rfl⟩
 rw [hW2] at hs2 ⊢
 have HS1 := Lib.hid hs2
 have hd := rp_at hs2
 obtain ⟨b0, b1, b2⟩ := boxCl (SEnd.at hs2)
 have hql : q < W2.heap.size := (Array.getElem?_eq_some_iff.1 (SEnd.at hs2)).1
 have hlt := hd.lt
 have d0 := hd.c0
 have d1 := hd.c1
 clear hs2 hW2 hd
 have d7 := (rp_at HS1.out).c7
 unfold bptr at d7
 have HS0 := Lib.hid (SEnd.below (star_owns (box_owns _ _) (rp_owns d s pv pq po pc)) HS1.out (ext_drew (ext_refl W2)))
 refine wp_region_greedy (n := 7) (fresh := Array.replicate 7 false) (GK (fun k => k = d ∨ k = q)) (by kernel_rfl) rfl rfl ?_
 refine wpAnyK_batch [0, 1, 2, 3, 4] 2 rfl (by kernel_rfl) (by kernel_rfl) rfl (by simp only [pickL, nthL, List.cons_append, List.nil_append]; rfl) ?_
 repeat (go_big_quiet_step (fail))
 refine wpQuiet_nil ?_
 refine wpAnyG_call2 (i := 5) (d := some 67) (v0 := .pointer (some ⟨pv, 0, none⟩)) (v1 := .agg #[.int .i64 n, .int .i64 i, .int .i64 h]) (R := fun u W' => u = .bool (heardB s.V ⟨n, i, h⟩) ∧ SEnd (star (BoxA q (.cells #[.int .i64 n, .int .i64 i, .int .i64 h] 30)) (RP d { s with V := hearV s.V ⟨n, i, h⟩ } pv pq po pc)) H w W' ∧ GK (fun k => k = d ∨ k = q) W2.drew W') (by kernel_rfl) rfl (by rfl) rfl Tryz.call35 (by rfl) (by rfl) (rp_hear (box_owns _ _) HS0.out ⟨n, i, h⟩ (fun k => k = q) (fun _ _ h k hk => (h.2 k).2 hk)) (fun _ _ h => h.2.2) rfl ?_
 rintro _ w3 ⟨rfl, hs3, -⟩
 rw [HV.out] at hs3
 have HS3 := Lib.hid hs3
 clear hs3
 rw [HH.out]
 simp only [Act.put, List.setIfInBounds_toArray, List.set_cons_succ, List.set_cons_zero]
 refine wpAnyK_batch [6] 0 rfl (by kernel_rfl) (by kernel_rfl) rfl (by simp only [pickL, nthL, List.cons_append, List.nil_append]; rfl) ?_
 repeat (go_big_quiet_step (fail))
 refine wpQuiet_nil ?_
 refine wpAnyG_end (by kernel_rfl) ?_
 go_wp2_with fail
 go_ret
 exact HFin.out 0 _ _ _ HD.out HS3.out
set_option maxHeartbeats 4000000 in
set_option maxRecDepth 100000 in
theorem hearRD_suspect (d : Nat) (s : DS) (n i h : Int) (w : World) (H : Nat → Prop) (hp0 : RDet d s w H) (hn : n ≠ s.self) (hh : heardB s.V ⟨n, i, h⟩ = true) (h2 : h = 2) : Calls Tryz.prog 40 #[bptr d, .agg #[.int .i64 n, .int .i64 i, .int .i64 h]] w (HearEnd d s ⟨n, i, h⟩ H w) := by
 obtain ⟨hok, pv, pq, po, pc, hp⟩ := hp0
 have HFin : Hid (∀ (e : Int) (s' : DS) (B : Asn) (W' : World), hearD s ⟨n, i, h⟩ = (s', e) → SEnd (star B (RP d s' pv pq po pc)) H w W' → HearEnd d s ⟨n, i, h⟩ H w (.returned (.int .i64 e)) W') := Lib.hid fun e s' B W' he hs => hear_fin hok he hs
 have hs1 := SEnd.box (rp_owns d s pv pq po pc) (sEnd_refl hp) (.cells #[.int .i64 n, .int .i64 i, .int .i64 h] 30)
 have hbx : (w.alloc (.cells #[.int .i64 n, .int .i64 i, .int .i64 h] 30)).heap[w.heap.size]? = some (.cells #[.int .i64 n, .int .i64 i, .int .i64 h] 30) := heap_alloc_new w _
 clear hp
 have HD : Hid (hearD s ⟨n, i, h⟩ = ({ s with V := hearV s.V ⟨n, i, h⟩, Q := qput s.Q ⟨n, i, h⟩, C := setM s.C ⟨100 + n, s.now + 6⟩ }, 0)) := Lib.hid (by unfold hearD; dsimp only; rw [if_neg hn, if_pos hh, if_pos h2])
 have hnb : 0 ≤ n ∧ n < 8 := by
  simp only [heardB, Bool.and_eq_true] at hh
  exact mayK_node hh.1
 have hnow := hok.now
 have HH := Lib.hid hh
 have g2 : (h == 2) = true := by simpa using h2
 have HOk : Hid (aftSet s.C ⟨100 + n, s.now + 6⟩ = setM s.C ⟨100 + n, s.now + 6⟩) := Lib.hid (by unfold aftSet; rw [if_pos (by simp only [okM, decide_eq_true_eq]; omega)])
 have g0 : (n == s.self) = false := by rw [beq_eq_false_iff_ne]; exact hn
 clear hn hh h2
 unfold bptr
 go_enter Tryz.func40, Tryz.ntmps40
 go_upto_region 1 with fail
 obtain ⟨q, hq⟩ : ∃ q, w.heap.size = q := ⟨_, rfl⟩
 obtain ⟨W1, hW1⟩ : ∃ W, w.alloc (.cells #[.int .i64 n, .int .i64 i, .int .i64 h] 30) = W := ⟨_, rfl⟩
 rw [hq, hW1] at hs1 hbx
 rw [hq, hW1]
 have HS1 := Lib.hid hs1
 have hd := rp_at hs1
 obtain ⟨b0, b1, b2⟩ := boxCl hbx
 have hlt := hd.lt
 have d0 := hd.c0
 have d1 := hd.c1
 have hql : q < W1.heap.size := (Array.getElem?_eq_some_iff.1 hbx).1
 clear hs1 hbx hq hW1 hd
 go_quiet (fail)
 go_wp2_with fail
 have hs2 := SEnd.below (star_owns (box_owns _ _) (rp_owns d s pv pq po pc)) HS1.out (ext_drewN (ext_refl W1) nq)
 clear d0 d1 b0 b1 b2 hlt hql HS1
 obtain ⟨W2, hW2⟩ : ∃ W, W1.drewN nq = W := ⟨_, rfl⟩
 rw [hW2] at hs2 ⊢
 have HS1 := Lib.hid hs2
 have hd := rp_at hs2
 obtain ⟨b0, b1, b2⟩ := boxCl (SEnd.at hs2)
 have hql : q < W2.heap.size := (Array.getElem?_eq_some_iff.1 (SEnd.at hs2)).1
 have hlt := hd.lt
 have d0 := hd.c0
 have d1 := hd.c1
 clear hs2 hW2 hd
 have d7 := (rp_at HS1.out).c7
 unfold bptr at d7
 have HS0 := Lib.hid (SEnd.below (star_owns (box_owns _ _) (rp_owns d s pv pq po pc)) HS1.out (ext_drew (ext_refl W2)))
 refine wp_region_greedy (n := 7) (fresh := Array.replicate 7 false) (GK (fun k => k = d ∨ k = q)) (by kernel_rfl) rfl rfl ?_
 refine wpAnyK_batch [0, 1, 2, 3, 4] 2 rfl (by kernel_rfl) (by kernel_rfl) rfl (by simp only [pickL, nthL, List.cons_append, List.nil_append]; rfl) ?_
 repeat (go_big_quiet_step (fail))
 refine wpQuiet_nil ?_
 refine wpAnyG_call2 (i := 5) (d := some 67) (v0 := .pointer (some ⟨pv, 0, none⟩)) (v1 := .agg #[.int .i64 n, .int .i64 i, .int .i64 h]) (R := fun u W' => u = .bool (heardB s.V ⟨n, i, h⟩) ∧ SEnd (star (BoxA q (.cells #[.int .i64 n, .int .i64 i, .int .i64 h] 30)) (RP d { s with V := hearV s.V ⟨n, i, h⟩ } pv pq po pc)) H w W' ∧ GK (fun k => k = d ∨ k = q) W2.drew W') (by kernel_rfl) rfl (by rfl) rfl Tryz.call35 (by rfl) (by rfl) (rp_hear (box_owns _ _) HS0.out ⟨n, i, h⟩ (fun k => k = q) (fun _ _ h k hk => (h.2 k).2 hk)) (fun _ _ h => h.2.2) rfl ?_
 rintro _ w3 ⟨rfl, hs3, -⟩
 have HS3 := Lib.hid hs3
 clear hs3
 rw [HH.out]
 simp only [Act.put, List.setIfInBounds_toArray, List.set_cons_succ, List.set_cons_zero]
 refine wpAnyK_batch [6] 0 rfl (by kernel_rfl) (by kernel_rfl) rfl (by simp only [pickL, nthL, List.cons_append, List.nil_append]; rfl) ?_
 repeat (go_big_quiet_step (fail))
 refine wpQuiet_nil ?_
 refine wpAnyG_end (by kernel_rfl) ?_
 clear b0 b1 b2 d0 d1 d7 hlt hql HS0 HS1
 have hd := rp_at HS3.out
 have hlt3 := hd.lt
 have d83 := hd.c8
 clear hd
 obtain ⟨b03, b13, b23⟩ := boxCl (SEnd.at HS3.out)
 have hql3 : q < w3.heap.size := (Array.getElem?_eq_some_iff.1 (SEnd.at HS3.out)).1
 unfold bptr at d83
 go_wp2_with fail
 have HS3' := Lib.hid (SEnd.below (star_owns (box_owns _ _) (rp_owns d { s with V := hearV s.V ⟨n, i, h⟩ } pv pq po pc)) HS3.out (ext_drew (ext_refl w3)))
 refine wp_region_greedy (n := 6) (fresh := Array.replicate 6 false) (GK (fun k => k = d ∨ k = q)) (by kernel_rfl) rfl rfl ?_
 refine wpAnyK_batch [0, 1, 2, 3, 4] 1 rfl (by kernel_rfl) (by kernel_rfl) rfl (by simp only [pickL, nthL, List.cons_append, List.nil_append]; rfl) ?_
 repeat (go_big_quiet_step (fail))
 refine wpQuiet_nil ?_
 refine wpAnyG_call2 (i := 5) (d := some 74) (v0 := .pointer (some ⟨pq, 0, none⟩)) (v1 := .agg #[.int .i64 n, .int .i64 i, .int .i64 h]) (R := fun u W' => u = .bool (putOf s.Q ⟨n, i, h⟩).2 ∧ SEnd (star (BoxA q (.cells #[.int .i64 n, .int .i64 i, .int .i64 h] 30)) (RP d { s with V := hearV s.V ⟨n, i, h⟩, Q := qput s.Q ⟨n, i, h⟩ } pv pq po pc)) H w W' ∧ GK (fun k => k = d ∨ k = q) w3.drew W') (by kernel_rfl) rfl (by rfl) rfl Tryz.call42 (by rfl) (by rfl) (rp_put (box_owns _ _) HS3'.out ⟨n, i, h⟩ (fun k => k = q) (fun _ _ h k hk => (h.2 k).2 hk)) (fun _ _ h => h.2.2) rfl ?_
 rintro _ w4 ⟨rfl, hs4, -⟩
 have HS4 := Lib.hid hs4
 clear hs4
 simp only [Act.put, List.setIfInBounds_toArray, List.set_cons_succ, List.set_cons_zero]
 refine wpAnyG_end (by kernel_rfl) ?_
 clear b03 b13 b23 d83 hlt3 hql3 HS3' HS3
 have hd := rp_at HS4.out
 have hlt4 := hd.lt
 have d24 := hd.c2
 have d104 := hd.c10
 clear hd
 obtain ⟨b04, b14, b24⟩ := boxCl (SEnd.at HS4.out)
 have hql4 : q < w4.heap.size := (Array.getElem?_eq_some_iff.1 (SEnd.at HS4.out)).1
 unfold bptr at d104
 go_wp2_with fail
 have HS4' := Lib.hid (SEnd.below (star_owns (box_owns _ _) (rp_owns d { s with V := hearV s.V ⟨n, i, h⟩, Q := qput s.Q ⟨n, i, h⟩ } pv pq po pc)) HS4.out (ext_drew (ext_refl w4)))
 refine wp_region_greedy (n := 13) (fresh := Array.replicate 13 false) (GK (fun k => k = d ∨ k = q)) (by kernel_rfl) rfl rfl ?_
 refine wpAnyK_batch [0, 1, 2, 3, 4, 5, 6, 7, 8, 9, 10, 11] 1 rfl (by kernel_rfl) (by kernel_rfl) rfl (by simp only [pickL, nthL, List.cons_append, List.nil_append]; rfl) ?_
 repeat (go_big_quiet_step (fail))
 refine wpQuiet_nil ?_
 refine wpAnyG_call3 (i := 12) (d := some 90) (v0 := .pointer (some ⟨pc, 0, none⟩)) (v1 := .int .i64 (100 + n)) (v2 := .int .i64 (s.now + 6)) (R := fun u W' => u = .bool (okM ⟨100 + n, s.now + 6⟩) ∧ SEnd (star (BoxA q (.cells #[.int .i64 n, .int .i64 i, .int .i64 h] 30)) (RP d { s with V := hearV s.V ⟨n, i, h⟩, Q := qput s.Q ⟨n, i, h⟩, C := setM s.C ⟨100 + n, s.now + 6⟩ } pv pq po pc)) H w W' ∧ GK (fun k => k = d ∨ k = q) w4.drew W') (by kernel_rfl) rfl (by rfl) rfl Tryz.call57 (by rfl) (by rfl) (by rfl) (by have := rp_set (box_owns _ _) HS4'.out (100 + n) (s.now + 6) (fun k => k = q) (fun _ _ h k hk => (h.2 k).2 hk); rw [HOk.out] at this; exact this) (fun _ _ h => h.2.2) rfl ?_
 rintro _ w5 ⟨rfl, hs5, -⟩
 have HS5 := Lib.hid hs5
 clear hs5
 simp only [Act.put, List.setIfInBounds_toArray, List.set_cons_succ, List.set_cons_zero]
 refine wpAnyG_end (by kernel_rfl) ?_
 go_wp2_with fail
 go_ret
 exact HFin.out 0 _ _ _ HD.out HS5.out
set_option maxHeartbeats 4000000 in
set_option maxRecDepth 100000 in
theorem hearRD_clear (d : Nat) (s : DS) (n i h : Int) (w : World) (H : Nat → Prop) (hp0 : RDet d s w H) (hn : n ≠ s.self) (hh : heardB s.V ⟨n, i, h⟩ = true) (h2 : h ≠ 2) : Calls Tryz.prog 40 #[bptr d, .agg #[.int .i64 n, .int .i64 i, .int .i64 h]] w (HearEnd d s ⟨n, i, h⟩ H w) := by
 obtain ⟨hok, pv, pq, po, pc, hp⟩ := hp0
 have HFin : Hid (∀ (e : Int) (s' : DS) (B : Asn) (W' : World), hearD s ⟨n, i, h⟩ = (s', e) → SEnd (star B (RP d s' pv pq po pc)) H w W' → HearEnd d s ⟨n, i, h⟩ H w (.returned (.int .i64 e)) W') := Lib.hid fun e s' B W' he hs => hear_fin hok he hs
 have hs1 := SEnd.box (rp_owns d s pv pq po pc) (sEnd_refl hp) (.cells #[.int .i64 n, .int .i64 i, .int .i64 h] 30)
 have hbx : (w.alloc (.cells #[.int .i64 n, .int .i64 i, .int .i64 h] 30)).heap[w.heap.size]? = some (.cells #[.int .i64 n, .int .i64 i, .int .i64 h] 30) := heap_alloc_new w _
 clear hp
 have HD : Hid (hearD s ⟨n, i, h⟩ = ({ s with V := hearV s.V ⟨n, i, h⟩, Q := qput s.Q ⟨n, i, h⟩, C := cutM s.C (100 + n) }, 0)) := Lib.hid (by unfold hearD; dsimp only; rw [if_neg hn, if_pos hh, if_neg h2])
 have hnb : 0 ≤ n ∧ n < 8 := by
  simp only [heardB, Bool.and_eq_true] at hh
  exact mayK_node hh.1
 have hnow := hok.now
 have HH := Lib.hid hh
 have g2 : (h == 2) = false := by rw [beq_eq_false_iff_ne]; exact h2
 have g0 : (n == s.self) = false := by rw [beq_eq_false_iff_ne]; exact hn
 clear hn hh h2
 unfold bptr
 go_enter Tryz.func40, Tryz.ntmps40
 go_upto_region 1 with fail
 obtain ⟨q, hq⟩ : ∃ q, w.heap.size = q := ⟨_, rfl⟩
 obtain ⟨W1, hW1⟩ : ∃ W, w.alloc (.cells #[.int .i64 n, .int .i64 i, .int .i64 h] 30) = W := ⟨_, rfl⟩
 rw [hq, hW1] at hs1 hbx
 rw [hq, hW1]
 have HS1 := Lib.hid hs1
 have hd := rp_at hs1
 obtain ⟨b0, b1, b2⟩ := boxCl hbx
 have hlt := hd.lt
 have d0 := hd.c0
 have d1 := hd.c1
 have hql : q < W1.heap.size := (Array.getElem?_eq_some_iff.1 hbx).1
 clear hs1 hbx hq hW1 hd
 go_quiet (fail)
 go_wp2_with fail
 have hs2 := SEnd.below (star_owns (box_owns _ _) (rp_owns d s pv pq po pc)) HS1.out (ext_drewN (ext_refl W1) nq)
 clear d0 d1 b0 b1 b2 hlt hql HS1
 obtain ⟨W2, hW2⟩ : ∃ W, W1.drewN nq = W := ⟨_, rfl⟩
 rw [hW2] at hs2 ⊢
 have HS1 := Lib.hid hs2
 have hd := rp_at hs2
 obtain ⟨b0, b1, b2⟩ := boxCl (SEnd.at hs2)
 have hql : q < W2.heap.size := (Array.getElem?_eq_some_iff.1 (SEnd.at hs2)).1
 have hlt := hd.lt
 have d0 := hd.c0
 have d1 := hd.c1
 clear hs2 hW2 hd
 have d7 := (rp_at HS1.out).c7
 unfold bptr at d7
 have HS0 := Lib.hid (SEnd.below (star_owns (box_owns _ _) (rp_owns d s pv pq po pc)) HS1.out (ext_drew (ext_refl W2)))
 refine wp_region_greedy (n := 7) (fresh := Array.replicate 7 false) (GK (fun k => k = d ∨ k = q)) (by kernel_rfl) rfl rfl ?_
 refine wpAnyK_batch [0, 1, 2, 3, 4] 2 rfl (by kernel_rfl) (by kernel_rfl) rfl (by simp only [pickL, nthL, List.cons_append, List.nil_append]; rfl) ?_
 repeat (go_big_quiet_step (fail))
 refine wpQuiet_nil ?_
 refine wpAnyG_call2 (i := 5) (d := some 67) (v0 := .pointer (some ⟨pv, 0, none⟩)) (v1 := .agg #[.int .i64 n, .int .i64 i, .int .i64 h]) (R := fun u W' => u = .bool (heardB s.V ⟨n, i, h⟩) ∧ SEnd (star (BoxA q (.cells #[.int .i64 n, .int .i64 i, .int .i64 h] 30)) (RP d { s with V := hearV s.V ⟨n, i, h⟩ } pv pq po pc)) H w W' ∧ GK (fun k => k = d ∨ k = q) W2.drew W') (by kernel_rfl) rfl (by rfl) rfl Tryz.call35 (by rfl) (by rfl) (rp_hear (box_owns _ _) HS0.out ⟨n, i, h⟩ (fun k => k = q) (fun _ _ h k hk => (h.2 k).2 hk)) (fun _ _ h => h.2.2) rfl ?_
 rintro _ w3 ⟨rfl, hs3, -⟩
 have HS3 := Lib.hid hs3
 clear hs3
 rw [HH.out]
 simp only [Act.put, List.setIfInBounds_toArray, List.set_cons_succ, List.set_cons_zero]
 refine wpAnyK_batch [6] 0 rfl (by kernel_rfl) (by kernel_rfl) rfl (by simp only [pickL, nthL, List.cons_append, List.nil_append]; rfl) ?_
 repeat (go_big_quiet_step (fail))
 refine wpQuiet_nil ?_
 refine wpAnyG_end (by kernel_rfl) ?_
 clear b0 b1 b2 d0 d1 d7 hlt hql HS0 HS1
 have hd := rp_at HS3.out
 have hlt3 := hd.lt
 have d83 := hd.c8
 clear hd
 obtain ⟨b03, b13, b23⟩ := boxCl (SEnd.at HS3.out)
 have hql3 : q < w3.heap.size := (Array.getElem?_eq_some_iff.1 (SEnd.at HS3.out)).1
 unfold bptr at d83
 go_wp2_with fail
 have HS3' := Lib.hid (SEnd.below (star_owns (box_owns _ _) (rp_owns d { s with V := hearV s.V ⟨n, i, h⟩ } pv pq po pc)) HS3.out (ext_drew (ext_refl w3)))
 refine wp_region_greedy (n := 6) (fresh := Array.replicate 6 false) (GK (fun k => k = d ∨ k = q)) (by kernel_rfl) rfl rfl ?_
 refine wpAnyK_batch [0, 1, 2, 3, 4] 1 rfl (by kernel_rfl) (by kernel_rfl) rfl (by simp only [pickL, nthL, List.cons_append, List.nil_append]; rfl) ?_
 repeat (go_big_quiet_step (fail))
 refine wpQuiet_nil ?_
 refine wpAnyG_call2 (i := 5) (d := some 74) (v0 := .pointer (some ⟨pq, 0, none⟩)) (v1 := .agg #[.int .i64 n, .int .i64 i, .int .i64 h]) (R := fun u W' => u = .bool (putOf s.Q ⟨n, i, h⟩).2 ∧ SEnd (star (BoxA q (.cells #[.int .i64 n, .int .i64 i, .int .i64 h] 30)) (RP d { s with V := hearV s.V ⟨n, i, h⟩, Q := qput s.Q ⟨n, i, h⟩ } pv pq po pc)) H w W' ∧ GK (fun k => k = d ∨ k = q) w3.drew W') (by kernel_rfl) rfl (by rfl) rfl Tryz.call42 (by rfl) (by rfl) (rp_put (box_owns _ _) HS3'.out ⟨n, i, h⟩ (fun k => k = q) (fun _ _ h k hk => (h.2 k).2 hk)) (fun _ _ h => h.2.2) rfl ?_
 rintro _ w4 ⟨rfl, hs4, -⟩
 have HS4 := Lib.hid hs4
 clear hs4
 simp only [Act.put, List.setIfInBounds_toArray, List.set_cons_succ, List.set_cons_zero]
 refine wpAnyG_end (by kernel_rfl) ?_
 clear b03 b13 b23 d83 hlt3 hql3 HS3' HS3
 have hd := rp_at HS4.out
 have hlt4 := hd.lt
 have d24 := hd.c2
 have d104 := hd.c10
 clear hd
 obtain ⟨b04, b14, b24⟩ := boxCl (SEnd.at HS4.out)
 have hql4 : q < w4.heap.size := (Array.getElem?_eq_some_iff.1 (SEnd.at HS4.out)).1
 unfold bptr at d104
 go_wp2_with fail
 have HS4' := Lib.hid (SEnd.below (star_owns (box_owns _ _) (rp_owns d { s with V := hearV s.V ⟨n, i, h⟩, Q := qput s.Q ⟨n, i, h⟩ } pv pq po pc)) HS4.out (ext_drew (ext_refl w4)))
 refine wp_region_greedy (n := 8) (fresh := Array.replicate 8 false) (GK (fun k => k = d ∨ k = q)) (by kernel_rfl) rfl rfl ?_
 refine wpAnyK_batch [0, 1, 2, 3, 4, 5, 6] 1 rfl (by kernel_rfl) (by kernel_rfl) rfl (by simp only [pickL, nthL, List.cons_append, List.nil_append]; rfl) ?_
 repeat (go_big_quiet_step (fail))
 refine wpQuiet_nil ?_
 refine wpAnyG_call2 (i := 7) (d := some 98) (v0 := .pointer (some ⟨pc, 0, none⟩)) (v1 := .int .i64 (100 + n)) (R := fun u W' => u = .bool (hasM s.C (100 + n)).isSome ∧ SEnd (star (BoxA q (.cells #[.int .i64 n, .int .i64 i, .int .i64 h] 30)) (RP d { s with V := hearV s.V ⟨n, i, h⟩, Q := qput s.Q ⟨n, i, h⟩, C := cutM s.C (100 + n) } pv pq po pc)) H w W' ∧ GK (fun k => k = d ∨ k = q) w4.drew W') (by kernel_rfl) rfl (by rfl) rfl Tryz.call48 (by rfl) (by rfl) (rp_cut (box_owns _ _) HS4'.out (100 + n) (fun k => k = q) (fun _ _ h k hk => (h.2 k).2 hk)) (fun _ _ h => h.2.2) rfl ?_
 rintro _ w5 ⟨rfl, hs5, -⟩
 have HS5 := Lib.hid hs5
 clear hs5
 simp only [Act.put, List.setIfInBounds_toArray, List.set_cons_succ, List.set_cons_zero]
 refine wpAnyG_end (by kernel_rfl) ?_
 go_wp2_with fail
 go_ret
 exact HFin.out 0 _ _ _ HD.out HS5.out
set_option maxHeartbeats 4000000 in
set_option maxRecDepth 100000 in
theorem hearRD_up (d : Nat) (s : DS) (n i h : Int) (w : World) (H : Nat → Prop) (hp0 : RDet d s w H) (hn : n = s.self) (r : Int) (hr : refN s.self s.inc n i h = r) (he : refE s.self s.inc n i h = 0) (hup : s.inc < r) : Calls Tryz.prog 40 #[bptr d, .agg #[.int .i64 n, .int .i64 i, .int .i64 h]] w (HearEnd d s ⟨n, i, h⟩ H w) := by
 obtain ⟨hok, pv, pq, po, pc, hp⟩ := hp0
 have HFin : Hid (∀ (e : Int) (s' : DS) (B : Asn) (W' : World), hearD s ⟨n, i, h⟩ = (s', e) → SEnd (star B (RP d s' pv pq po pc)) H w W' → HearEnd d s ⟨n, i, h⟩ H w (.returned (.int .i64 e)) W') := Lib.hid fun e s' B W' he hs => hear_fin hok he hs
 have hs1 := SEnd.box (rp_owns d s pv pq po pc) (sEnd_refl hp) (.cells #[.int .i64 n, .int .i64 i, .int .i64 h] 30)
 have hbx : (w.alloc (.cells #[.int .i64 n, .int .i64 i, .int .i64 h] 30)).heap[w.heap.size]? = some (.cells #[.int .i64 n, .int .i64 i, .int .i64 h] 30) := heap_alloc_new w _
 clear hp
 have HD : Hid (hearD s ⟨n, i, h⟩ = (DS.tell { s with inc := r } ⟨s.self, r, 1⟩, 0)) := Lib.hid (by unfold hearD; dsimp only; rw [if_pos hn, he, if_neg (by simp), hr, if_pos hup])
 have HR : Hid (∀ W, Gives Tryz.prog 68 #[.int .i64 s.self, .int .i64 s.inc, .agg #[.int .i64 n, .int .i64 i, .int .i64 h]] W (.tuple #[.int .i64 r, .int .i64 0])) := Lib.hid fun W => (refRefute_any s.self s.inc n i h W).cast (by rw [hr, he])
 have g0 : (n == s.self) = true := by simpa using hn
 have g2 : decide (s.inc < r) = true := decide_eq_true hup
 clear hn hr he
 unfold bptr
 go_enter Tryz.func40, Tryz.ntmps40
 go_upto_region 1 with fail
 obtain ⟨q, hq⟩ : ∃ q, w.heap.size = q := ⟨_, rfl⟩
 obtain ⟨W1, hW1⟩ : ∃ W, w.alloc (.cells #[.int .i64 n, .int .i64 i, .int .i64 h] 30) = W := ⟨_, rfl⟩
 rw [hq, hW1] at hs1 hbx
 rw [hq, hW1]
 have HS1 := Lib.hid hs1
 have hd := rp_at hs1
 obtain ⟨b0, b1, b2⟩ := boxCl hbx
 have hlt := hd.lt
 have d0 := hd.c0
 have d1 := hd.c1
 have hql : q < W1.heap.size := (Array.getElem?_eq_some_iff.1 hbx).1
 clear hs1 hbx hq hW1 hd
 go_quiet (fail)
 go_wp2_with fail
 have hs2 := SEnd.below (star_owns (box_owns _ _) (rp_owns d s pv pq po pc)) HS1.out (ext_drewN (ext_refl W1) nq)
 clear d0 d1 b0 b1 b2 hlt hql HS1
 obtain ⟨W2, hW2⟩ : ∃ W, W1.drewN nq = W := ⟨_, rfl⟩
 rw [hW2] at hs2 ⊢
 have HS1 := Lib.hid hs2
 have hd := rp_at hs2
 obtain ⟨b0, b1, b2⟩ := boxCl (SEnd.at hs2)
 have hql : q < W2.heap.size := (Array.getElem?_eq_some_iff.1 (SEnd.at hs2)).1
 have hlt := hd.lt
 have d0 := hd.c0
 have d1 := hd.c1
 clear hs2 hW2 hd
 refine wp_region_later (by kernel_rfl) (by kernel_rfl) ?_
 repeat (go_big_quiet_step (first | (go_at_call 68; with_reducible exact later_of (HR.out _))))
 refine wpQuiet_nil ?_
 rintro _ ⟨x2, rfl⟩
 have HS2 := Lib.hid (SEnd.later (star_owns (box_owns _ _) (rp_owns d s pv pq po pc)) HS1.out x2)
 have hd := rp_at HS2.out
 have f1 := hd.f 1
 have hlt2 := hd.lt
 clear hd
 have hs3 := (rp_store (box_owns _ _) HS2.out 1 (.int .i64 r) { s with inc := r } rfl rfl rfl rfl rfl rfl).drop
 have hs4 := SEnd.box (rp_owns d { s with inc := r } pv pq po pc) hs3 (.cells #[.int .i64 s.self, .int .i64 r, .int .i64 1] 30)
 have HS4 := Lib.hid hs4
 clear hs3 hs4
 go_upto_region 9 with fail
 obtain ⟨b, hb⟩ : ∃ b, (x2.w.setCell ⟨d, 1, none⟩ (.int .i64 r)).heap.size = b := ⟨_, rfl⟩
 have hb' : x2.w.heap.size = b := by rw [← hb]; simp
 obtain ⟨W4, hW4⟩ : ∃ W, (x2.w.setCell ⟨d, 1, none⟩ (.int .i64 r)).alloc (.cells #[.int .i64 s.self, .int .i64 r, .int .i64 1] 30) = W := ⟨_, rfl⟩
 rw [hb, hW4] at HS4
 rw [hb', hW4]
 clear hb hb' hW4 HS2 f1 hlt2 b0 b1 b2 d0 d1 hlt hql HS1
 have hd := rp_at HS4.out
 have hlt := hd.lt
 have d7 := hd.c7
 unfold bptr at d7
 clear hd
 obtain ⟨b0, b1, b2⟩ := boxCl (SEnd.at HS4.out)
 have hbl : b < W4.heap.size := (Array.getElem?_eq_some_iff.1 (SEnd.at HS4.out)).1
 have HS4' := Lib.hid (SEnd.below (star_owns (box_owns _ _) (rp_owns d { s with inc := r } pv pq po pc)) HS4.out (ext_drew (ext_refl W4)))
 refine wp_region_greedy (n := 6) (fresh := Array.replicate 6 false) (GK (fun k => k = d ∨ k = b)) (by kernel_rfl) rfl rfl ?_
 refine wpAnyK_batch [0, 1, 2, 3, 4] 1 rfl (by kernel_rfl) (by kernel_rfl) rfl (by simp only [pickL, nthL, List.cons_append, List.nil_append]; rfl) ?_
 repeat (go_big_quiet_step (fail))
 refine wpQuiet_nil ?_
 refine wpAnyG_call2 (i := 5) (d := some 55) (v0 := .pointer (some ⟨pv, 0, none⟩)) (v1 := .agg #[.int .i64 s.self, .int .i64 r, .int .i64 1]) (R := fun u W' => u = .bool (heardB s.V ⟨s.self, r, 1⟩) ∧ SEnd (star (BoxA b (.cells #[.int .i64 s.self, .int .i64 r, .int .i64 1] 30)) (RP d { s with inc := r, V := hearV s.V ⟨s.self, r, 1⟩ } pv pq po pc)) H w W' ∧ GK (fun k => k = d ∨ k = b) W4.drew W') (by kernel_rfl) rfl (by rfl) rfl Tryz.call35 (by rfl) (by rfl) (rp_hear (box_owns _ _) HS4'.out ⟨s.self, r, 1⟩ (fun k => k = b) (fun _ _ h k hk => (h.2 k).2 hk)) (fun _ _ h => h.2.2) rfl ?_
 rintro _ w5 ⟨rfl, hs5, -⟩
 have HS5 := Lib.hid hs5
 clear hs5
 simp only [Act.put, List.setIfInBounds_toArray, List.set_cons_succ, List.set_cons_zero]
 refine wpAnyG_end (by kernel_rfl) ?_
 go_wp2_with fail
 clear b0 b1 b2 d7 hlt hbl HS4 HS4'
 have hd := rp_at HS5.out
 have hlt := hd.lt
 have d8 := hd.c8
 unfold bptr at d8
 clear hd
 obtain ⟨b0, b1, b2⟩ := boxCl (SEnd.at HS5.out)
 have hbl : b < w5.heap.size := (Array.getElem?_eq_some_iff.1 (SEnd.at HS5.out)).1
 have HS5' := Lib.hid (SEnd.below (star_owns (box_owns _ _) (rp_owns d { s with inc := r, V := hearV s.V ⟨s.self, r, 1⟩ } pv pq po pc)) HS5.out (ext_drew (ext_refl w5)))
 refine wp_region_greedy (n := 6) (fresh := Array.replicate 6 false) (GK (fun k => k = d ∨ k = b)) (by kernel_rfl) rfl rfl ?_
 refine wpAnyK_batch [0, 1, 2, 3, 4] 1 rfl (by kernel_rfl) (by kernel_rfl) rfl (by simp only [pickL, nthL, List.cons_append, List.nil_append]; rfl) ?_
 repeat (go_big_quiet_step (fail))
 refine wpQuiet_nil ?_
 refine wpAnyG_call2 (i := 5) (d := some 61) (v0 := .pointer (some ⟨pq, 0, none⟩)) (v1 := .agg #[.int .i64 s.self, .int .i64 r, .int .i64 1]) (R := fun u W' => u = .bool (putOf s.Q ⟨s.self, r, 1⟩).2 ∧ SEnd (star (BoxA b (.cells #[.int .i64 s.self, .int .i64 r, .int .i64 1] 30)) (RP d { s with inc := r, V := hearV s.V ⟨s.self, r, 1⟩, Q := qput s.Q ⟨s.self, r, 1⟩ } pv pq po pc)) H w W' ∧ GK (fun k => k = d ∨ k = b) w5.drew W') (by kernel_rfl) rfl (by rfl) rfl Tryz.call42 (by rfl) (by rfl) (rp_put (box_owns _ _) HS5'.out ⟨s.self, r, 1⟩ (fun k => k = b) (fun _ _ h k hk => (h.2 k).2 hk)) (fun _ _ h => h.2.2) rfl ?_
 rintro _ w6 ⟨rfl, hs6, -⟩
 have HS6 := Lib.hid hs6
 clear hs6
 simp only [Act.put, List.setIfInBounds_toArray, List.set_cons_succ, List.set_cons_zero]
 refine wpAnyG_end (by kernel_rfl) ?_
 go_wp2_with fail
 go_ret
 exact HFin.out 0 _ _ _ HD.out HS6.out
theorem hearRD_any (d : Nat) (s : DS) (c : Cl) : Trip Tryz.prog 40 #[bptr d, c.val] (RDet d s) fun u => pureA (u = .int .i64 (hearD s c).2) (RDet d (hearD s c).1) := by
 intro w H hp
 obtain ⟨n, i, h⟩ := c
 by_cases hn : n = s.self
 ·by_cases he : refE s.self s.inc n i h = 0
  ·by_cases hr : s.inc < refN s.self s.inc n i h
   ·exact hearRD_up d s n i h w H hp hn _ rfl he hr
   ·exact hearRD_low d s n i h w H hp hn _ rfl he hr
  ·exact hearRD_over d s n i h w H hp hn _ _ rfl rfl he
 ·cases hh : heardB s.V ⟨n, i, h⟩ with
  | false => exact hearRD_no d s n i h w H hp hn hh
  | true =>
   by_cases h2 : h = 2
   ·exact hearRD_suspect d s n i h w H hp hn hh h2
   ·exact hearRD_clear d s n i h w H hp hn hh h2
end Go.Proofs.YtjbihgfdgaiecaaGreat

/- The model alone: what is believed never falls; what a detector says of itself; who has left. -/
namespace Go.Proofs.YtjbihgfdgaiecaaGreat
open Go Go.RowKit
structure Up (s s' : DS) : Prop where
 self : s'.self = s.self
 left : s'.left = s.left
 now : s'.now = s.now
 inc : s.inc ≤ s'.inc
 V : ∀ k, kle (s.V k) (s'.V k)
theorem Up.refl (s : DS) : Up s s := ⟨rfl, rfl, rfl, Int.le_refl _, fun _ => kle_refl _⟩
theorem Up.trans {a b c : DS} (h : Up a b) (k : Up b c) : Up a c := ⟨k.self.trans h.self, k.left.trans h.left, k.now.trans h.now, Int.le_trans h.inc k.inc, fun j => kle_trans (h.V j) (k.V j)⟩
theorem hearV_up (V : Vw) (c : Cl) (k : Nat) : kle (V k) (hearV V c k) := ((hearV_lub V c k _).1 (kle_refl _)).1
theorem up_hearD (s : DS) (c : Cl) : Up s (hearD s c).1 := by
 unfold hearD DS.tell
 split
 ·split
  ·exact ⟨rfl, rfl, rfl, Int.le_refl _, fun _ => kle_refl _⟩
  ·split
   ·rename_i h; exact ⟨rfl, rfl, rfl, Int.le_of_lt h, fun k => hearV_up s.V _ k⟩
   ·exact Up.refl s
 ·split
  ·exact ⟨rfl, rfl, rfl, Int.le_refl _, fun k => hearV_up s.V _ k⟩
  ·exact Up.refl s
theorem up_sendD (s : DS) (kind dst seq for' about : Int) : Up s (sendD s kind dst seq for' about).1 := ⟨rfl, rfl, rfl, Int.le_refl _, fun _ => kle_refl _⟩
theorem up_fold {α : Type} (f : DS × List MM → α → DS × List MM) (hf : ∀ y p, Up y.1 (f y p).1) : ∀ (l : List α) (y : DS × List MM), Up y.1 (l.foldl f y).1
 | [], y => Up.refl _
 | a :: l, y => (hf y a).trans (up_fold f hf l (f y a))
theorem up_dueD (peers : List Int) (draw : Int) (x : DS × List MM) (id : Int) : Up x.1 (dueD peers draw x id).1 := by
 unfold dueD
 split
 ·split
  ·exact up_hearD _ _
  ·exact Up.refl _
 ·split
  ·exact up_fold (fun y p => ((sendD y.1 3 p y.1.seq 0 y.1.asked).1, y.2 ++ [(sendD y.1 3 p y.1.seq 0 y.1.asked).2])) (fun y p => up_sendD y.1 3 p y.1.seq 0 y.1.asked) _ x
  ·split
   ·have h : ∀ t : DS, Up x.1 t → Up x.1 { t with asked := -1 } := fun t h => ⟨h.self, h.left, h.now, h.inc, h.V⟩
    refine h _ ?_
    split
    ·exact up_hearD _ _
    ·exact Up.refl _
   ·exact Up.refl _
theorem up_askD (peers : List Int) (draw : Int) (x : DS × List MM) : Up x.1 (askD peers draw x).1 := by
 unfold askD
 split
 ·exact Up.refl _
 ·dsimp only
  split
  ·exact ⟨rfl, rfl, rfl, Int.le_refl _, fun _ => kle_refl _⟩
  ·exact ⟨rfl, rfl, rfl, Int.le_refl _, fun _ => kle_refl _⟩
theorem up_tickD (s : DS) (peers : List Int) (draw : Int) : Up { s with now := s.now + 1 } (tickD s peers draw).1 := by
 unfold tickD
 dsimp only
 split
 ·exact Up.refl _
 ·refine Up.trans ?_ (up_askD _ _ _)
  refine Up.trans ?_ (up_fold (fun x (m : Mo) => dueD peers draw x m.n) (fun y m => up_dueD peers draw y m.n) _ _)
  exact ⟨rfl, rfl, rfl, Int.le_refl _, fun _ => kle_refl _⟩
theorem up_heardL : ∀ (l : List Cl) (s : DS), Up s (l.foldl (fun s c => if nothingK c then s else (hearD s c).1) s)
 | [], s => Up.refl s
 | c :: l, s => by
  refine Up.trans ?_ (up_heardL l _)
  dsimp only
  split
  ·exact Up.refl s
  ·exact up_hearD s c
theorem up_heardM (s : DS) (l : List Cl) : Up s (heardM s l) := up_heardL _ s
theorem up_fromD (s : DS) (frm : Int) : Up s (fromD s frm) := by
 unfold fromD
 split
 ·exact Up.refl s
 ·exact up_hearD _ _
theorem up_handleD (s : DS) (m : MM) : Up s (handleD s m).1 := by
 have h1 : Up s (fromD (heardM s m.claims) m.frm) := (up_heardM s m.claims).trans (up_fromD _ _)
 obtain ⟨t, ht⟩ : ∃ t, fromD (heardM s m.claims) m.frm = t := ⟨_, rfl⟩
 rw [ht] at h1
 unfold handleD
 rw [ht]
 dsimp only
 split
 ·exact Up.refl s
 ·split
  ·split
   ·exact ⟨h1.self, h1.left, h1.now, h1.inc, h1.V⟩
   ·exact h1
  ·split
   ·exact h1
   ·split
    ·exact h1.trans ⟨rfl, rfl, rfl, Int.le_refl _, fun _ => kle_refl _⟩
    ·split
     ·exact h1.trans ⟨rfl, rfl, rfl, Int.le_refl _, fun _ => kle_refl _⟩
     ·split
      ·exact h1.trans ⟨rfl, rfl, rfl, Int.le_refl _, fun _ => kle_refl _⟩
      ·exact h1
theorem up_hearCall (s : DS) (c : Cl) : Up s (hearCall s c).1 := by
 unfold hearCall
 split
 ·exact Up.refl s
 ·exact up_hearD s c
theorem leaveD_rest (s : DS) : (leaveD s).1.self = s.self ∧ (leaveD s).1.inc = s.inc ∧ (leaveD s).1.now = s.now ∧ (leaveD s).2 = ⟨s.self, s.inc, 4⟩ := by
 unfold leaveD
 dsimp only
 split <;> exact ⟨rfl, rfl, rfl, rfl⟩
theorem tickD_left {s : DS} (peers : List Int) (draw : Int) (hl : s.left = true) : tickD s peers draw = ({ s with now := s.now + 1 }, []) := by
 unfold tickD
 dsimp only
 rw [if_pos hl]
def heardStep (x : DS × Nat) (c : Cl) : DS × Nat := if mayK c = true ∧ x.2 < 4 then (if nothingK c then x.1 else (hearD x.1 c).1, x.2 + 1) else x
theorem heard_steps : ∀ (l : List Cl) (s : DS) (n : Nat), n ≤ 4 → (l.foldl heardStep (s, n)).1 = ((l.filter mayK).take (4 - n)).foldl (fun s c => if nothingK c then s else (hearD s c).1) s
 | [], s, n, _ => by simp
 | c :: l, s, n, hn => by
  rw [List.foldl_cons, List.filter_cons]
  unfold heardStep
  cases hm : mayK c with
  | false =>
   rw [if_neg (fun h => by cases h.1)]
   simp only [Bool.false_eq_true, if_false]
   exact heard_steps l s n hn
  | true =>
   by_cases h4 : n < 4
   ·rw [if_pos ⟨rfl, h4⟩]
    simp only [if_true]
    rw [show 4 - n = (4 - (n + 1)) + 1 from by omega, List.take_succ_cons, List.foldl_cons]
    exact heard_steps l _ (n + 1) (by omega)
   ·rw [if_neg (fun h => h4 h.2)]
    have e : 4 - n = 0 := by omega
    have h5 := heard_steps l s n hn
    rw [e, List.take_zero] at h5 ⊢
    exact h5
theorem heardM_steps (s : DS) (l : List Cl) : (l.foldl heardStep (s, 0)).1 = heardM s l := heard_steps l s 0 (by omega)
theorem heardStep_le : ∀ (l : List Cl) (x : DS × Nat), x.2 ≤ 4 → (l.foldl heardStep x).2 ≤ 4
 | [], _, h => h
 | c :: l, x, h => heardStep_le l _ (by unfold heardStep; split <;> first | exact h | (rename_i h2; exact h2.2))
end Go.Proofs.YtjbihgfdgaiecaaGreat

/- Messages as they lie in memory. -/
namespace Go.Proofs.YtjbihgfdgaiecaaGreat
open Go Go.RowKit
structure RawM where
 kind : Int
 frm : Int
 dst : Int
 seq : Int
 for' : Int
 about : Int
 p : Option Addr
 n : Nat
 cap : Nat
def i0 : Value := .int .i64 0
def s0 : Value := .slice none 0 0
def msgMid : List Value := [i0, i0, .string ByteArray.empty, i0, i0, i0, i0, i0, i0, i0, i0, s0, i0, i0, i0, i0, i0, i0, i0, i0, i0, i0, s0, i0, i0, i0, i0, i0, i0, i0, i0, i0, i0, i0, i0, i0, i0, i0, i0, i0, i0, i0, i0, i0, i0, i0, i0, i0, i0, i0, i0, i0, i0, i0, i0]
def RawM.enc (r : RawM) : List Value := [.int .i64 r.kind, .int .i64 r.frm, .int .i64 r.dst, .int .i64 r.seq, .int .i64 r.for', .int .i64 r.about] ++ msgMid ++ [.slice r.p r.n r.cap]
def RawM.val (r : RawM) : Value := .agg r.enc.toArray
theorem msgMid_len : msgMid.length = 55 := rfl
theorem msgMid_one : ∀ u ∈ msgMid, u.oneCell' = true := by
 intro u hu
 simp only [msgMid, List.mem_cons, List.not_mem_nil, or_false] at hu
 rcases hu with rfl | rfl | rfl | rfl | rfl | rfl | rfl | rfl | rfl | rfl | rfl | rfl | rfl | rfl | rfl | rfl | rfl | rfl | rfl | rfl | rfl | rfl | rfl | rfl | rfl | rfl | rfl | rfl | rfl | rfl | rfl | rfl | rfl | rfl | rfl | rfl | rfl | rfl | rfl | rfl | rfl | rfl | rfl | rfl | rfl | rfl | rfl | rfl | rfl | rfl | rfl | rfl | rfl | rfl | rfl <;> rfl
def zeroM : RawM := ⟨0, 0, 0, 0, 0, 0, none, 0, 0⟩
def elemM : Elem Tryz.prog RawM where
 enc := RawM.enc
 k := 62
 pos := by decide
 len r := by simp [RawM.enc, msgMid_len]
 one r u hu := by
  simp only [RawM.enc, List.mem_append, List.mem_cons, List.not_mem_nil, or_false] at hu
  rcases hu with ((rfl | rfl | rfl | rfl | rfl | rfl) | hu) | rfl
  ·rfl
  ·rfl
  ·rfl
  ·rfl
  ·rfl
  ·rfl
  ·exact msgMid_one u hu
  ·rfl
 t := 46
 sl := 54
 under := Tryz.underlying54
 z := zeroM.val
 bytes := 552
 bpos := by decide
 info := by kernel_rfl
 zs := by kernel_rfl
end Go.Proofs.YtjbihgfdgaiecaaGreat

/- Rows of one's own among the objects: made, appended to. -/
namespace Go.Proofs.YtjbihgfdgaiecaaGreat
open Go Go.RowKit
theorem fill_from : ∀ (l : List Value) (k : Nat) (arr : Array Value), k + l.length = arr.size → (l.zipIdx k).foldl (fun cs x => cs.setIfInBounds x.snd x.fst) arr = (arr.toList.take k ++ l).toArray
 | [], k, arr, h => by
  simp only [List.zipIdx_nil, List.foldl_nil, List.append_nil]
  apply Array.toList_inj.1
  simp only [List.length_nil, Nat.add_zero] at h
  rw [List.take_of_length_le (by simp; omega)]
 | x :: l, k, arr, h => by
  rw [List.length_cons] at h
  rw [List.zipIdx_cons, List.foldl_cons, fill_from l (k + 1) _ (by simp; omega)]
  apply Array.toList_inj.1
  dsimp only
  rw [Array.toList_setIfInBounds]
  have hk : k < arr.toList.length := by simp; omega
  rw [List.take_add_one, List.getElem?_set_self hk, List.take_set_of_le (Nat.le_refl _)]
  simp
theorem fill_all (l : List Value) (arr : Array Value) (h : l.length = arr.size) : l.zipIdx.foldl (fun cs x => cs.setIfInBounds x.snd x.fst) arr = l.toArray := by
 rw [fill_from l 0 arr (by omega)]
 rfl
section
variable {α : Type} {E : Elem Tryz.prog α} {Q : Asn} {H0 : Nat → Prop} {w W : World} {v v2 : Value} {xs l2 : List α}
theorem runS_append (ty : TypeId) (hm : W.ownsRow 0 E.t E.k v xs.length (E.cells xs)) (hs : SrcE E W v2 l2) (hb : (xs.length + l2.length) * E.bytes ≤ 140737488355328) :
  ∃ v' w', (Builtin.append_ #[E.sl, E.sl] ty #[v, v2]).run Tryz.prog W = .ok v' w' ∧ w'.ownsRow 0 E.t E.k v' (xs ++ l2).length (E.cells (xs ++ l2)) ∧ W.grownBy w' v.ownBlock ∧ ∀ g, v'.ownBlock = some g → v.ownBlock = some g ∨ W.heap.size ≤ g := by
 obtain ⟨i0, hi, hz0, hz1, hz2⟩ := info_parts E.info
 obtain ⟨hl, p, cap, rfl, hlc, hpc⟩ := hs
 cases p with
 | none =>
  obtain rfl := hpc rfl
  obtain rfl : l2 = [] := List.eq_nil_of_length_eq_zero (by omega)
  refine ⟨v, W, run_append_owned_none (P := Tryz.prog) (w := W) 0 E.sl ty E.t i0 E.k E.under hi v xs.length (E.cells xs) hm, ?_, ⟨rfl, rfl, rfl, Nat.le_refl _, fun _ _ _ => rfl⟩, fun g h => .inl h⟩
  rw [List.append_nil]
  exact hm
 | some a =>
  have hnews : ∀ j u, (E.cells l2)[j]? = some u → W.cell? (a.add j) = some u := by
   intro j u hu
   rcases hl with ⟨rfl, _⟩ | ⟨b, o, cap', he, hlt, hc⟩
   ·simp [Elem.cells] at hu
   ·simp only [Value.slice.injEq, Option.some.injEq] at he
    obtain ⟨rfl, _, _⟩ := he
    rw [addr_off]
    obtain ⟨i, j', x, rfl, hx, hu'⟩ := E.cells_inv l2 j u hu
    rw [← Nat.add_assoc]
    exact hc i x hx j' u hu'
  have hbp := E.bpos
  have hle : xs.length + l2.length ≤ 140737488355328 := Nat.le_trans (Nat.le_mul_of_pos_right _ hbp) hb
  obtain ⟨v', w', hr, h2, h3, h4⟩ := run_append_where (P := Tryz.prog) W E.sl ty E.t i0 E.z E.k E.bytes E.under hi hz0 hz1 hz2 E.zs E.pos v xs.length (E.cells xs) hm a l2.length cap (E.cells l2) (E.cells_len l2) hnews (E.cells_one l2) (by unfold maxLen; omega) hb
  refine ⟨v', w', hr, ?_, h3, h4⟩
  rw [List.length_append, E.cells_append]
  exact h2
theorem SEnd.append (ty : TypeId) (hQ : Owns Q) (h : SEnd (star (RowO E v xs) Q) H0 w W) (hs : SrcE E W v2 l2) (hb : (xs.length + l2.length) * E.bytes ≤ 140737488355328) :
  ∃ v' w', (Builtin.append_ #[E.sl, E.sl] ty #[v, v2]).run Tryz.prog W = .ok v' w' ∧ SEnd (star (RowO E v' (xs ++ l2)) Q) H0 w w' ∧ ∀ S : Nat → Prop, (∀ H2, Q W H2 → ∀ k, S k → H2 k) → GK S W w' := by
 obtain ⟨H, hst, hf, hg⟩ := h
 obtain ⟨H1, h1, _, h3⟩ := star_frame hQ hst
 obtain ⟨v', w', hr, h2, h4, h5⟩ := runS_append ty h1.1 hs hb
 have hstep : SEnd (RowO E v' (xs ++ l2)) H1 W w' := by
  refine ⟨fun k => v'.ownBlock = some k, ⟨h2, fun _ => Iff.rfl⟩, Fr.of_grownBy h4 fun j hj => .inl ((h1.2 j).2 hj), fun k hk => ?_⟩
  rcases h5 k hk with h | h
  ·exact .inl ((h1.2 k).2 h)
  ·exact .inr h
 refine ⟨v', w', hr, ?_, (h3 _ _ hstep).2⟩
 exact SEnd.trans (P := fun W1 H' => W1 = W ∧ H' = H) ⟨H, ⟨rfl, rfl⟩, hf, hg⟩ fun H' ⟨_, e⟩ => by subst e; exact (h3 _ _ hstep).1
theorem wpListS_append {ops : Array Oper} {rest : List Oper} {o : Oper} {a : Act} {K : Exit → Act → World → Prop} (hgd : o.guard = none) (s x : Operand)
  (ho : o.op = .call { callee := .builtin .append, args := #[s, x], argTypes := #[E.sl, E.sl] }) (hsv : a.eval s = v) (hxv : a.eval x = v2)
  (hQ : Owns Q) (h : SEnd (star (RowO E v xs) Q) H0 w W) (hs : SrcE E W v2 l2) (hb : (xs.length + l2.length) * E.bytes ≤ 140737488355328)
  (hK : ∀ v' w', SEnd (star (RowO E v' (xs ++ l2)) Q) H0 w w' → (∀ S : Nat → Prop, (∀ H2, Q W H2 → ∀ k, S k → H2 k) → GK S W w') → wpList Tryz.prog ops K rest (a.put o.dst v') w') : wpList Tryz.prog ops K (o :: rest) a W :=
 wpList_plain hgd fun _ hk => by
  obtain ⟨v', w', hr, h2, h3⟩ := SEnd.append o.type hQ h hs hb
  unfold Oper.wp execOp
  simp only [ho, resolve, invoke, builtin, Sem.run_bind, Sem.run_pure, Result.andThen_ok, List.map_toArray, List.map_cons, List.map_nil, hsv, hxv, hr]
  exact hk _ _ (hK v' w' h2 h3)
theorem wpT_appendS {md : Region.Mode} {ops : Array Oper} {s : List Nat} {S : Nat → Prop} {K : Act → World → Prop} {fuel i : Nat} {listed : Array Bool} {a : Act} (hr : Region.ready md ops listed = [i]) {o : Oper} (hi : ops[i]? = some o) (hw : Region.wanted o (yielded ops a.tmps) = true)
  {x y : Operand} (ho : o.op = .call { callee := .builtin .append, args := #[x, y], argTypes := #[E.sl, E.sl] }) (hx : a.eval x = v) (hy : a.eval y = v2) (hQ : Owns Q) (h : SEnd (star (RowO E v xs) Q) H0 w W) (hs : SrcE E W v2 l2) (hb : (xs.length + l2.length) * E.bytes ≤ 140737488355328) (hS : ∀ H2, Q W H2 → ∀ k, S k → H2 k) {d : Option Tmp} (hd : o.dst = d)
  (hK : ∀ v' w', SEnd (star (RowO E v' (xs ++ l2)) Q) H0 w w' → GK S W w' → wpT Tryz.prog md ops (GS s S) K fuel (listed.setIfInBounds i true) (a.put d v') w') : wpT Tryz.prog md ops (GS s S) K (fuel + 1) listed a W := by
 obtain ⟨v', w', hrun, h2, h3⟩ := SEnd.append o.type hQ h hs hb
 refine wpT_value hr hi hw (R := fun v' w' => SEnd (star (RowO E v' (xs ++ l2)) Q) H0 w w' ∧ GK S W w') ⟨v', w', ?_, h2, h3 S hS⟩ (fun v' w' hh => .inr hh.2) hd fun v' w' hh => hK v' w' hh.1 hh.2
 unfold execOp
 simp only [ho, resolve, invoke, builtin, Sem.run_bind, Sem.run_pure, Result.andThen_ok, List.map_toArray, List.map_cons, List.map_nil, hx, hy, hrun]
theorem SEnd.form (h : SEnd (star (RowO E v xs) Q) H0 w W) : ∃ p cap, v = .slice p xs.length cap := by
 obtain ⟨H, ⟨H1, H2, h1, _⟩, _⟩ := h
 obtain ⟨p, cap, hv, _⟩ := ownsRow_formE h1.1
 exact ⟨p, cap, hv⟩
theorem SEnd.src (h : SEnd (star (RowO E v xs) Q) H0 w W) : SrcE E W v xs := by
 obtain ⟨H, ⟨H1, H2, h1, _⟩, _⟩ := h
 exact h1.src
theorem rowO_nil : RowO E (.slice none 0 0) [] W fun _ => False := ⟨World.ownsRow_nil _ _ _ _, fun k => by simp [Value.ownBlock]⟩
theorem rowO_box {b : Nat} {x : α} {cs : Array Value} {H : Nat → Prop} (hc : cs.toList = E.enc x) (h : BoxA b (.cells cs E.t (0, 0)) W H) : RowO E (.slice (some ⟨b, 0, none⟩) 1 1) [x] W H := by
 have hl : cs.toList.length = E.k := by rw [hc, E.len]
 have hcells : E.cells [x] = E.enc x := by show E.enc x ++ [] = _; rw [List.append_nil]
 refine ⟨⟨by rw [E.cells_len], .inr ⟨b, 1, cs, rfl, Nat.zero_le _, h.1, Nat.le_refl _, by unfold maxLen; omega, by rw [Nat.one_mul, ← hl]; simp, ?_⟩⟩, fun k => ?_⟩
 ·rw [hcells, ← hc]
  exact List.take_of_length_le (by rw [hl]; simp)
 ·rw [h.2 k]
  simp [Value.ownBlock, eq_comm]
theorem SEnd.row1 {b : Nat} {x : α} {cs : Array Value} (hc : cs.toList = E.enc x) (h : SEnd (star (BoxA b (.cells cs E.t (0, 0))) Q) H0 w W) : SEnd (star (RowO E (.slice (some ⟨b, 0, none⟩) 1 1) [x]) Q) H0 w W := h.mono fun _ => star_mono (fun _ => rowO_box hc) fun _ h => h
end
end Go.Proofs.YtjbihgfdgaiecaaGreat

/- A drawn region in which a call that makes new memory alone, and a new variable, may come up in either order. -/
namespace Go.Proofs.YtjbihgfdgaiecaaGreat
open Go Go.RowKit
theorem uponG_value {P : Program} {G : World → World → Prop} {o : Oper} {a : Act} {w w' : World} {K : Act → World → Prop} {v : Value} {r : Result Next} (hr : r = .ok (.value v) w') (hG : G w w') (hK : K (a.put o.dst v) w') : uponG P G o a w K r := by
 subst hr
 exact ⟨hG, hK⟩
theorem uponG_call {P : Program} {G : World → World → Prop} {o : Oper} {a : Act} {w : World} {K : Act → World → Prop} {f : Nat} {args : Array Value} {r : Result Next} (hr : r = .ok (.enter f args) w) (hc : Calls P f args w fun e w' => ∃ v, e = .returned v ∧ G w w' ∧ K (a.put o.dst v) w') : uponG P G o a w K r := by
 subst hr
 exact hc
theorem wpT_callAlloc {P : Program} {md : Region.Mode} {ops : Array Oper} {s : List Nat} {S : Nat → Prop} {K : Act → World → Prop} {W : World} {fuel i j : Nat} {listed : Array Bool} {a : Act} (hr : Region.ready md ops listed = [i, j]) (hij : i ≠ j)
  (hri : Region.ready md ops (listed.setIfInBounds i true) = [j]) (hrj : Region.ready md ops (listed.setIfInBounds j true) = [i]) {oi oj : Oper} (hi : ops[i]? = some oi) (hj : ops[j]? = some oj) (hgi : oi.guard = none) (hgj : oj.guard = none)
  {f : Nat} {xs : Array Operand} {ts : Array TypeId} (ho : oi.op = .call { callee := .value (.func f), args := xs, argTypes := ts }) (eg : ∀ args w, (callFunc f args).run P w = .ok (.enter f args) w) {args : Array Value} (hargs : xs.map a.eval = args) {x y : Nat} (hx : oi.dst = some x) (hy : oj.dst = some y) (hxy : x ≠ y) (hargs' : ∀ u, xs.map (a.put (some y) u).eval = args)
  {v : Value} (hc : ∀ W', Below W.heap.size W W' → Gives P f args W' v) {o : Obj} (hal : ∀ (a' : Act) W', (execOp a'.eval oj).run P W' = .ok (.value (.pointer (some ⟨W'.heap.size, 0, none⟩))) (W'.alloc o)) (hS : ∀ k, S k → k < W.heap.size)
  (hK : ∀ b W', Below W.heap.size W W' → W.heap.size ≤ b → W'.heap[b]? = some o → wpT P md ops (GS s S) K fuel ((listed.setIfInBounds i true).setIfInBounds j true) ((a.put (some x) v).put (some y) (.pointer (some ⟨b, 0, none⟩))) W') : wpT P md ops (GS s S) K (fuel + 1 + 1) listed a W := by
 have want : ∀ {q : Oper} {z : Nat → Option Bool}, q.guard = none → Region.wanted q z = true := fun h => by simp [Region.wanted, h]
 have enter : ∀ {a' : Act} W', xs.map a'.eval = args → (execOp a'.eval oi).run P W' = .ok (.enter f args) W' := fun W' h => by
  simp [execOp, ho, resolve, invoke, Act.eval, Deferred.ofValue, eg, h, go_sem]
  try exact ⟨_, h⟩
 refine wpT_two hr ?_ ?_
 ·unfold opT opG
  simp only [hi, want hgi, if_true]
  refine uponG_call (enter W hargs) ?_
  refine (hc W (ext_refl W)).mono fun e W1 ⟨he, z, hz⟩ => ⟨v, he, ?_, ?_⟩
  ·subst hz; exact .inr (GK.of_later z hS)
  ·subst hz
   rw [hx]
   refine wpT_just hri ?_
   unfold opT opG
   simp only [hj, want hgj, if_true]
   refine uponG_value (hal _ z.w) (.inr (GK.of_below (ext_alloc (ext_refl z.w) o) fun k hk => Nat.lt_of_lt_of_le (hS k hk) z.below.size)) ?_
   rw [hy]
   exact hK z.w.heap.size _ (ext_alloc z.below o) z.below.size (heap_alloc_new _ _)
 ·unfold opT opG
  simp only [hj, want hgj, if_true]
  refine uponG_value (hal _ W) (.inr (GK.of_below (ext_alloc (ext_refl W) o) hS)) ?_
  rw [hy]
  refine wpT_just hrj ?_
  unfold opT opG
  simp only [hi, want hgi, if_true]
  refine uponG_call (enter _ (hargs' _)) ?_
  refine (hc _ (ext_alloc (ext_refl W) o)).mono fun e W1 ⟨he, z, hz⟩ => ⟨v, he, ?_, ?_⟩
  ·subst hz; exact .inr (GK.of_later z fun k hk => Nat.lt_of_lt_of_le (hS k hk) (by simp))
  ·subst hz
   rw [hx, Array.setIfInBounds_comm _ _ (Ne.symm hij), Act.put_comm a _ _ (fun d h => by simp only [Option.some.injEq] at h; subst h; simpa using hxy)]
   refine hK W.heap.size _ (ext_later (ext_alloc (ext_refl W) o) z) (Nat.le_refl _) ?_
   exact (z.below.block _ (by simp)).trans (heap_alloc_new W o)
theorem wpT_callAlloc2 {P : Program} {md : Region.Mode} {ops : Array Oper} {s : List Nat} {S : Nat → Prop} {K : Act → World → Prop} {W : World} {fuel i j : Nat} {listed : Array Bool} {a : Act} (hr : Region.ready md ops listed = [i, j]) (hij : i ≠ j)
  (hri : Region.ready md ops (listed.setIfInBounds i true) = [j]) (hrj : Region.ready md ops (listed.setIfInBounds j true) = [i]) {oi oj : Oper} (hi : ops[i]? = some oi) (hj : ops[j]? = some oj) (hgi : oi.guard = none) (hgj : oj.guard = none)
  {f : Nat} {x0 x1 : Operand} {ts : Array TypeId} (ho : oi.op = .call { callee := .value (.func f), args := #[x0, x1], argTypes := ts }) (eg : ∀ args w, (callFunc f args).run P w = .ok (.enter f args) w) {v0 v1 : Value} (h0 : a.eval x0 = v0) (h1 : a.eval x1 = v1) {x y : Nat} (hx : oi.dst = some x) (hy : oj.dst = some y) (hxy : x ≠ y) (h0' : ∀ u, (a.put (some y) u).eval x0 = v0) (h1' : ∀ u, (a.put (some y) u).eval x1 = v1)
  {v : Value} (hc : ∀ W', Below W.heap.size W W' → Gives P f #[v0, v1] W' v) {o : Obj} (hal : ∀ (a' : Act) W', (execOp a'.eval oj).run P W' = .ok (.value (.pointer (some ⟨W'.heap.size, 0, none⟩))) (W'.alloc o)) (hS : ∀ k, S k → k < W.heap.size)
  (hK : ∀ b W', Below W.heap.size W W' → W.heap.size ≤ b → W'.heap[b]? = some o → wpT P md ops (GS s S) K fuel ((listed.setIfInBounds i true).setIfInBounds j true) ((a.put (some x) v).put (some y) (.pointer (some ⟨b, 0, none⟩))) W') : wpT P md ops (GS s S) K (fuel + 1 + 1) listed a W :=
 wpT_callAlloc hr hij hri hrj hi hj hgi hgj ho eg (by simp [h0, h1]) hx hy hxy (fun u => by simp [h0', h1']) hc hal hS hK
end Go.Proofs.YtjbihgfdgaiecaaGreat

/- A new row of one message. -/
namespace Go.Proofs.YtjbihgfdgaiecaaGreat
open Go Go.RowKit
set_option maxRecDepth 100000 in
theorem run_build_msg (r : RawM) (W : World) : (Instr.buildSlice 54 1 #[(0, .agg r.enc.toArray)]).run Tryz.prog W = .ok (.slice (some ⟨W.heap.size, 0, none⟩) 1 1) (W.alloc (.cells r.enc.toArray 46)) := by
 simp [Instr.buildSlice, go_sem]
 rw [fill_all]
 all_goals rfl
theorem wpList_build_msg {ops : Array Oper} {rest : List Oper} {o : Oper} {a : Act} {K : Exit → Act → World → Prop} {W : World} {r : RawM} (hgd : o.guard = none) (x : Operand) (ho : o.op = .buildSlice 54 1 #[(0, x)]) (hx : a.eval x = .agg r.enc.toArray)
  (h : wpList Tryz.prog ops K rest (a.put o.dst (.slice (some ⟨W.heap.size, 0, none⟩) 1 1)) (W.alloc (.cells r.enc.toArray 46))) : wpList Tryz.prog ops K (o :: rest) a W :=
 wpList_plain hgd fun _ hk => by
  unfold Oper.wp execOp
  simp only [ho, List.map_toArray, List.map_cons, List.map_nil, hx, Sem.run_bind, Sem.run_pure, Result.andThen_ok, run_build_msg]
  exact hk _ _ h
end Go.Proofs.YtjbihgfdgaiecaaGreat

/- The reference's detector: to send a message. -/
namespace Go.Proofs.YtjbihgfdgaiecaaGreat
open Go Go.RowKit Go.BigFrame
theorem load_msg {W : World} {q : Nat} {r : RawM} (h : W.heap[q]? = some (.cells r.enc.toArray 46 (0, 0))) : (loadVar 46 ⟨q, 0, none⟩).run Tryz.prog W = .ok (.agg r.enc.toArray) W :=
 run_loadVar_row W q _ _ _ _ _ h Tryz.underlying46 rfl (by kernel_rfl)
theorem wpList_load_msg {ops : Array Oper} {rest : List Oper} {o : Oper} {a : Act} {K : Exit → Act → World → Prop} {W : World} {q : Nat} {r : RawM} (hgd : o.guard = none) (x : Operand) (ho : o.op = .load 46 x) (hx : a.eval x = .pointer (some ⟨q, 0, none⟩)) (hm : W.heap[q]? = some (.cells r.enc.toArray 46 (0, 0)))
  (h : wpList Tryz.prog ops K rest (a.put o.dst (.agg r.enc.toArray)) W) : wpList Tryz.prog ops K (o :: rest) a W :=
 wpList_plain hgd fun _ hk => by
  unfold Oper.wp execOp
  simp only [ho, hx, Instr.loadAt, Instr.sureAddr, Sem.run_bind, Sem.run_pure, Result.andThen_ok, load_msg hm]
  exact hk _ _ h
structure MsgAt (W : World) (q : Nat) (r : RawM) : Prop where
 lt : q < W.heap.size
 c1 : W.cell? ⟨q, 1, none⟩ = some (.int .i64 r.frm)
 c2 : W.cell? ⟨q, 2, none⟩ = some (.int .i64 r.dst)
 c61 : W.cell? ⟨q, 61, none⟩ = some (.slice r.p r.n r.cap)
 f : ∀ j, W.frozen? ⟨q, j, none⟩ = false
 all : (loadVar 46 ⟨q, 0, none⟩).run Tryz.prog W = .ok (.agg r.enc.toArray) W
theorem msgAt {W : World} {q : Nat} {r : RawM} (h : W.heap[q]? = some (.cells r.enc.toArray 46 (0, 0))) : MsgAt W q r := by
 have hc : ∀ j, W.cell? ⟨q, j, none⟩ = r.enc[j]? := fun j => by simp [World.cell?, h]
 exact ⟨(Array.getElem?_eq_some_iff.1 h).1, hc 1, hc 2, hc 61, fun j => by simp [World.frozen?, h], load_msg h⟩
theorem msg_frm (r : RawM) (x : Int) : r.enc.toArray.setIfInBounds 1 (.int .i64 x) = { r with frm := x }.enc.toArray := rfl
theorem msg_cl (r : RawM) (p : Option Addr) (n cap : Nat) : r.enc.toArray.setIfInBounds 61 (.slice p n cap) = { r with p := p, n := n, cap := cap }.enc.toArray := rfl
abbrev msgO (r : RawM) : Obj := .cells r.enc.toArray 46 (0, 0)
theorem open_det {A : Asn} {d : Nat} {s : DS} {W : World} {H : Nat → Prop} (h : star A (RDet d s) W H) : DsOk s ∧ ∃ pv pq po pc, star A (RP d s pv pq po pc) W H := by
 obtain ⟨H1, H2, h1, ⟨hok, pv, pq, po, pc, h2⟩, ha, he⟩ := h
 exact ⟨hok, pv, pq, po, pc, H1, H2, h1, h2, ha, he⟩
def SentA (d : Nat) (s : DS) (raws : List RawM) (kind dst seq for' about : Int) (u : Value) : Asn := fun W H => ∃ p n cap, star (RowO elemM u (raws ++ [⟨kind, s.self, dst, seq, for', about, p, n, cap⟩])) (star (RowO elemCl (.slice p n cap) (claimsTo s dst)) (RDet d (sentD s))) W H
theorem rp_take {B : Asn} {H0 : Nat → Prop} {w W : World} {d pv pq po pc : Nat} {s : DS} (hB : Owns B) (h : SEnd (star B (RP d s pv pq po pc)) H0 w W) (S : Nat → Prop) (hS : ∀ W H2, B W H2 → ∀ k, S k → H2 k) :
  Calls Tryz.prog 73 #[bptr pq, .int .i64 2] W fun e W' => ∃ u, e = .returned u ∧ (SEnd (star (RowO elemCl u ((qout s.Q).map Td.c)) (star B (RP d (sentD s) pv pq po pc))) H0 w W' ∧ GK (fun k => k = d ∨ S k) W W') :=
 SEnd.callF h (P := QueRA pq s.Q) (Q := star (BoxA d (detO s pv pq po pc)) (star B (star (ViewRA pv s.V) (star (OrdRA po s.self s.O) (ClkRA pc s.C))))) (R := fun u => star (RowO elemCl u ((qout s.Q).map Td.c)) (QueRA pq (qrest s.Q)))
  (fun W H h => star_in4 (star_swap h)) (star_owns (box_owns _ _) (star_owns hB (star_owns (viewRA_owns _ _) (star_owns (ordRA_owns _ _ _) (clkRA_owns _ _))))) (queR_take pq s.Q) _
  (cov2 fun W H2 ⟨H3, H4, h1, h2, _, he⟩ k hk => (he k).2 (.inl (hS W H3 h1 k hk))) (fun u W H h => star_mono (fun _ h => h) (fun _ h => star_swap (star_out4 h)) (star_assoc h))
theorem SEnd.fill {Q : Asn} {H0 : Nat → Prop} {w W : World} {b : Nat} {n i h : Int} (hQ : Owns Q) (hs : SEnd (star (BoxA b (.cells #[.int .i64 0, .int .i64 0, .int .i64 0] 30 (0, 0))) Q) H0 w W) : SEnd (star (BoxA b (.cells #[.int .i64 n, .int .i64 i, .int .i64 h] 30 (0, 0))) Q) H0 w (((W.setCell ⟨b, 0, none⟩ (.int .i64 n)).setCell ⟨b, 1, none⟩ (.int .i64 i)).setCell ⟨b, 2, none⟩ (.int .i64 h)) :=
 SEnd.store (off := 2) hQ (SEnd.store (off := 1) hQ (SEnd.store (off := 0) hQ hs (.int .i64 n)) (.int .i64 i)) (.int .i64 h)
abbrev clO (n i h : Int) : Obj := .cells #[.int .i64 n, .int .i64 i, .int .i64 h] 30 (0, 0)
set_option maxHeartbeats 8000000 in
set_option maxRecDepth 100000 in
theorem sendRD_any (d : Nat) (s : DS) (v : Value) (raws : List RawM) (kind dst seq for' about : Int) (hlen : raws.length ≤ 1000) : Trip Tryz.prog 49 #[bptr d, v, (RawM.mk kind 0 dst seq for' about none 0 0).val] (star (RowO elemM v raws) (RDet d s)) (SentA d s raws kind dst seq for' about) := by
 intro w H hp0
 obtain ⟨hok, pv, pq, po, pc, hp⟩ := open_det hp0
 have HOk := Lib.hid hok
 obtain ⟨r0, hr0⟩ : ∃ r, RawM.mk kind 0 dst seq for' about none 0 0 = r := ⟨_, rfl⟩
 have HR0 := Lib.hid hr0
 rw [hr0]
 have hs1 := SEnd.box (star_owns (rowO_owns elemM v raws) (rp_owns d s pv pq po pc)) (sEnd_refl hp) (.cells r0.enc.toArray 46)
 clear hp hp0 hr0 hok
 unfold bptr RawM.val
 go_enter Tryz.func49, Tryz.ntmps49
 go_upto_region 1 with fail
 obtain ⟨q, hq⟩ : ∃ q, w.heap.size = q := ⟨_, rfl⟩
 obtain ⟨W1, hW1⟩ : ∃ W, w.alloc (.cells r0.enc.toArray 46) = W := ⟨_, rfl⟩
 rw [hq, hW1] at hs1
 rw [hq, hW1]
 have HS1 := Lib.hid hs1
 have hd := rp_at hs1.assoc'
 have hm := msgAt (SEnd.at hs1)
 have hlt := hd.lt
 have hql := hm.lt
 have d0 := hd.c0
 have m1 := hm.c1
 have f1 := hm.f 1
 clear hs1 hq hW1 hd hm
 go_upto_region 2 with fail
 have hs2 := SEnd.store (off := 1) (star_owns (rowO_owns elemM v raws) (rp_owns d s pv pq po pc)) HS1.out (.int .i64 s.self)
 rw [msg_frm] at hs2
 clear HS1 hlt hql d0 m1 f1
 obtain ⟨W2, hW2⟩ : ∃ W, W1.setCell ⟨q, 1, none⟩ (.int .i64 s.self) = W := ⟨_, rfl⟩
 obtain ⟨r1, hr1⟩ : ∃ r, { r0 with frm := s.self } = r := ⟨_, rfl⟩
 have HR1 := Lib.hid hr1
 rw [hW2, hr1] at hs2
 rw [hW2]
 have HS2 := Lib.hid hs2
 clear hW2 hr1 hs2
 have hS2 := HS2.out
 have hd := rp_at hS2.assoc'
 have hm := msgAt (SEnd.at hS2)
 have hlt := hd.lt
 have hql := hm.lt
 have d0 := hd.c0
 have d7 := hd.c7
 have m61 := hm.c61
 have f61 := hm.f 61
 unfold bptr at d7
 have HS2d := Lib.hid (SEnd.below (star_owns (box_owns _ _) (star_owns (rowO_owns elemM v raws) (rp_owns d s pv pq po pc))) hS2 (ext_drew (ext_refl W2)))
 obtain ⟨⟨n1, i1, h1⟩, hc1⟩ : ∃ c, ofV s.V s.self = c := ⟨_, rfl⟩
 have HC1 := Lib.hid hc1
 have HOf1 := Lib.hid ((rp_of HS2d.out.assoc' s.self).cast (by rw [hc1]; rfl : _ = Value.agg #[.int .i64 n1, .int .i64 i1, .int .i64 h1]))
 clear hS2 hd hm hc1
 refine wp_region_taken [11] (fun k => k = d ∨ k = q) (by kernel_rfl) (n := 12) rfl (fresh := Array.replicate 12 false) rfl ?_
 refine wpT_batchK [0, 1, 2, 3, 4, 5, 6, 7] 4 rfl (by kernel_rfl) (by kernel_rfl) (by simp only [pickL, nthL, List.cons_append, List.nil_append]; rfl) ?_
 repeat (go_big_quiet_step (fail))
 refine wpQuiet_nil ?_
 refine wpT_call2 (i := 8) (d := some 21) (v0 := .pointer (some ⟨pv, 0, none⟩)) (v1 := .int .i64 s.self) (R := fun u W' => u = .agg #[.int .i64 n1, .int .i64 i1, .int .i64 h1] ∧ SEnd (star (BoxA q (msgO r1)) (star (RowO elemM v raws) (RP d s pv pq po pc))) H w W' ∧ Below W2.drew.heap.size W2.drew W') (by kernel_rfl) rfl (by rfl) rfl Tryz.call24 (by rfl) (by rfl) (SEnd.gives (star_owns (box_owns _ _) (star_owns (rowO_owns elemM v raws) (rp_owns d s pv pq po pc))) HS2d.out HOf1.out) (fun _ _ h => .inr (GK.of_below h.2.2 fun k hk => by rcases hk with rfl | rfl <;> assumption)) rfl ?_
 rintro _ w4 ⟨rfl, hs4, hb4⟩
 have HS4 := Lib.hid hs4
 have q61 : w4.cell? ⟨q, 61, none⟩ = _ := (hb4.cell (p := ⟨q, _, none⟩) hql).trans m61
 have g61 : w4.frozen? ⟨q, 61, none⟩ = _ := (hb4.frozen (p := ⟨q, _, none⟩) hql).trans f61
 have hql4 : q < w4.heap.size := Nat.lt_of_lt_of_le hql hb4.size
 have hlt4 : d < w4.heap.size := Nat.lt_of_lt_of_le hlt hb4.size
 clear hs4 hb4 m61 f61 d0 d7 hlt hql HS2d HS2
 simp only [Act.put, List.setIfInBounds_toArray, List.set_cons_succ, List.set_cons_zero]
 refine wpT_just (i := 9) (by kernel_rfl) ?_
 refine opT_value (d := some 22) (v := .slice (some ⟨w4.heap.size, 0, none⟩) 1 1) (w' := w4.alloc (.cells #[.int .i64 n1, .int .i64 i1, .int .i64 h1] 30)) rfl (by rfl) (by simp [execOp, Instr.buildSlice, go_sem]) (.inr (GK.of_below (ext_alloc (ext_refl w4) _) fun k hk => by rcases hk with rfl | rfl <;> assumption)) rfl ?_
 simp only [Act.put, List.setIfInBounds_toArray, List.set_cons_succ, List.set_cons_zero]
 have hs5 := (SEnd.row1 (E := elemCl) (x := ⟨n1, i1, h1⟩) rfl (SEnd.box (star_owns (box_owns _ _) (star_owns (rowO_owns elemM v raws) (rp_owns d s pv pq po pc))) HS4.out (.cells #[.int .i64 n1, .int .i64 i1, .int .i64 h1] 30))).swap
 have k61 : (w4.alloc (.cells #[.int .i64 n1, .int .i64 i1, .int .i64 h1] 30)).cell? ⟨q, 61, none⟩ = _ := ((ext_alloc (ext_refl w4) _).cell (p := ⟨q, _, none⟩) hql4).trans q61
 have l61 : (w4.alloc (.cells #[.int .i64 n1, .int .i64 i1, .int .i64 h1] 30)).frozen? ⟨q, 61, none⟩ = _ := ((ext_alloc (ext_refl w4) _).frozen (p := ⟨q, _, none⟩) hql4).trans g61
 obtain ⟨b, hb⟩ : ∃ b, w4.heap.size = b := ⟨_, rfl⟩
 obtain ⟨w5, hw5⟩ : ∃ W, w4.alloc (.cells #[.int .i64 n1, .int .i64 i1, .int .i64 h1] 30) = W := ⟨_, rfl⟩
 rw [hb, hw5] at hs5
 rw [hw5] at k61 l61
 rw [hb, hw5]
 have HS5 := Lib.hid hs5
 clear hs5 hb hw5 q61 g61 hql4 hlt4 HS4
 refine wpT_batchK [10] 1 rfl (by kernel_rfl) (by kernel_rfl) (by simp only [pickL, nthL, List.cons_append, List.nil_append]; rfl) ?_
 repeat (go_big_quiet_step (fail))
 refine wpQuiet_nil ?_
 refine wpT_store (i := 11) (w' := w5.setCell ⟨q, 61, none⟩ (.slice (some ⟨b, 0, none⟩) 1 1)) (by kernel_rfl) rfl (by rfl) (by simp [execOp, go_sem, k61, l61]) (.inl rfl) rfl ?_
 refine wpT_end (by kernel_rfl) ?_
 have hs6 := SEnd.store (off := 61) (star_owns (rowO_owns elemCl _ _) (star_owns (rowO_owns elemM v raws) (rp_owns d s pv pq po pc))) HS5.out (.slice (some ⟨b, 0, none⟩) 1 1)
 rw [msg_cl] at hs6
 obtain ⟨r2, hr2⟩ : ∃ r, { r1 with p := some ⟨b, 0, none⟩, n := 1, cap := 1 } = r := ⟨_, rfl⟩
 have HR2 := Lib.hid hr2
 obtain ⟨W6, hW6⟩ : ∃ W, w5.setCell ⟨q, 61, none⟩ (.slice (some ⟨b, 0, none⟩) 1 1) = W := ⟨_, rfl⟩
 rw [hr2, hW6] at hs6
 rw [hW6]
 have hs6' : SEnd (star (RowO elemCl (.slice r2.p r2.n r2.cap) [⟨n1, i1, h1⟩]) (star (BoxA q (msgO r2)) (star (RowO elemM v raws) (RP d s pv pq po pc)))) H w W6 := by
  have := hs6.swap
  rw [← hr2] at this ⊢
  exact this
 have HS6 := Lib.hid hs6'
 clear hs6 hs6' hr2 hW6 k61 l61 HS5
 go_upto_region 3 with fail
 have hS6 := HS6.out
 have hd := rp_at hS6.assoc'.assoc'
 have hm := msgAt (SEnd.at hS6.swap)
 have hlt := hd.lt
 have hql := hm.lt
 have d7 := hd.c7
 have m2 := hm.c2
 have hdst : r2.dst = dst := by rw [← HR2.out, ← HR1.out, ← HR0.out]
 rw [hdst] at m2
 unfold bptr at d7
 have HS6d := Lib.hid (SEnd.below (star_owns (rowO_owns elemCl _ _) (star_owns (box_owns _ _) (star_owns (rowO_owns elemM v raws) (rp_owns d s pv pq po pc)))) hS6 (ext_drew (ext_refl W6)))
 obtain ⟨⟨n2, i2, h2⟩, hc2⟩ : ∃ c, ofV s.V dst = c := ⟨_, rfl⟩
 have HC2 := Lib.hid hc2
 have HOf2 : Hid (∀ W', Below W6.drew.heap.size W6.drew W' → Gives Tryz.prog 24 #[.pointer (some ⟨pv, 0, none⟩), .int .i64 dst] W' (.agg #[.int .i64 n2, .int .i64 i2, .int .i64 h2])) := Lib.hid fun W' hb => (rp_of (SEnd.below (star_owns (rowO_owns elemCl _ _) (star_owns (box_owns _ _) (star_owns (rowO_owns elemM v raws) (rp_owns d s pv pq po pc)))) HS6d.out hb).assoc'.assoc' dst).cast (by rw [hc2]; rfl)
 clear hS6 hd hm hdst hc2
 refine wp_region_taken [8] (fun k => k = d ∨ k = q) (by kernel_rfl) (n := 9) rfl (fresh := Array.replicate 9 false) rfl ?_
 refine wpT_batchK [0, 1, 2, 3, 4, 5] 3 rfl (by kernel_rfl) (by kernel_rfl) (by simp only [pickL, nthL, List.cons_append, List.nil_append]; rfl) ?_
 repeat (go_big_quiet_step (fail))
 refine wpQuiet_nil ?_
 refine wpT_callAlloc2 (i := 6) (j := 7) (by kernel_rfl) (by decide) (by kernel_rfl) (by kernel_rfl) rfl rfl rfl rfl rfl Tryz.call24 (v0 := .pointer (some ⟨pv, 0, none⟩)) (v1 := .int .i64 dst) (by rfl) (by rfl) (x := 30) (y := 7) rfl rfl (by decide) (fun _ => by rfl) (fun _ => by rfl) (v := .agg #[.int .i64 n2, .int .i64 i2, .int .i64 h2]) (fun W' hb => HOf2.out W' hb) (o := .cells #[.int .i64 0, .int .i64 0, .int .i64 0] 30) (fun _ _ => by simp [execOp, go_sem]) (fun k hk => by rcases hk with rfl | rfl <;> assumption) ?_
 intro b2 W7 hb7 hn7 ho7
 simp only [Act.put, List.setIfInBounds_toArray, List.set_cons_succ, List.set_cons_zero]
 have e0 : W7.cell? ⟨b2, 0, none⟩ = some (.int .i64 0) := by simp [World.cell?, ho7]
 have e1 : W7.cell? ⟨b2, 1, none⟩ = some (.int .i64 0) := by simp [World.cell?, ho7]
 have e2 : W7.cell? ⟨b2, 2, none⟩ = some (.int .i64 0) := by simp [World.cell?, ho7]
 have ef : ∀ j, W7.frozen? ⟨b2, j, none⟩ = false := fun j => by simp [World.frozen?, ho7]
 have ef0 := ef 0
 have ef1 := ef 1
 have ef2 := ef 2
 have HS7 := Lib.hid (SEnd.fill (n := n2) (i := i2) (h := h2) (star_owns (rowO_owns elemCl _ _) (star_owns (box_owns _ _) (star_owns (rowO_owns elemM v raws) (rp_owns d s pv pq po pc)))) (SEnd.boxed (star_owns (rowO_owns elemCl _ _) (star_owns (box_owns _ _) (star_owns (rowO_owns elemM v raws) (rp_owns d s pv pq po pc)))) HS6d.out hb7 hn7 ho7))
 refine wpT_store (i := 8) (w' := ((W7.setCell ⟨b2, 0, none⟩ (.int .i64 n2)).setCell ⟨b2, 1, none⟩ (.int .i64 i2)).setCell ⟨b2, 2, none⟩ (.int .i64 h2)) (by kernel_rfl) rfl (by rfl) (by simp [execOp, go_sem, e0, e1, e2, ef0, ef1, ef2]) (.inl rfl) rfl ?_
 refine wpT_end (by kernel_rfl) ?_
 obtain ⟨W8, hW8⟩ : ∃ W, ((W7.setCell ⟨b2, 0, none⟩ (.int .i64 n2)).setCell ⟨b2, 1, none⟩ (.int .i64 i2)).setCell ⟨b2, 2, none⟩ (.int .i64 h2) = W := ⟨_, rfl⟩
 have hs8 := HS7.out
 rw [hW8] at hs8 ⊢
 have HS8 := Lib.hid hs8
 clear hW8 e0 e1 e2 ef ef0 ef1 ef2 hb7 hn7 ho7 HS7 HS6d HS6 d7 m2 hlt hql hs8
 obtain ⟨z0, z1, z2⟩ := boxCl (SEnd.at HS8.out)
 have hbl2 : b2 < W8.heap.size := (Array.getElem?_eq_some_iff.1 (SEnd.at HS8.out)).1
 by_cases ga : h2 = 2
 ·have g2 : (h2 == 2) = true := by simpa using ga
  have GA : Hid (h2 = 2 ∨ h2 = 3) := Lib.hid (.inl ga)
  clear ga
  have hm := msgAt (SEnd.at (HS8.out.mono fun _ => star_in3))
  have m61 := hm.c61
  have hql := hm.lt
  have HA := Lib.hid (SEnd.below (star_owns (rowO_owns elemCl _ _) (star_owns (box_owns _ _) (star_owns (box_owns _ _) (star_owns (rowO_owns elemM v raws) (rp_owns d s pv pq po pc))))) HS8.out.swap (ext_alloc (ext_refl W8) (.cells #[.int .i64 n2, .int .i64 i2, .int .i64 h2] 30)))
  have HSrc2 := Lib.hid (srcE_one (E := elemCl) (x := ⟨n2, i2, h2⟩) (heap_alloc_new W8 (.cells #[.int .i64 n2, .int .i64 i2, .int .i64 h2] 30)) rfl)
  clear hm
  go_wp2_with (at_builtin; go_loud (refine wpListS_append (E := elemCl) (xs := [(⟨n1, i1, h1⟩ : Cl)]) (l2 := [(⟨n2, i2, h2⟩ : Cl)]) rfl _ _ rfl rfl rfl (star_owns (box_owns _ _) (star_owns (box_owns _ _) (star_owns (rowO_owns elemM v raws) (rp_owns d s pv pq po pc)))) HA.out HSrc2.out (by show (1 + 1) * 24 ≤ 140737488355328; omega) ?_; intro v9 w9 hs9 hg9; have hm9 := msgAt (SEnd.at (hs9.mono fun _ => star_in3)); have q9 := hm9.c61; have f9 := hm9.f 61; have hql9 := hm9.lt; obtain ⟨p9, c9, rfl⟩ : ∃ p c, v9 = .slice p 2 c := SEnd.form hs9; have HS9 := Lib.hid hs9; clear hm9 hs9 hg9))
  have hs10 := SEnd.store (off := 61) (star_owns (rowO_owns elemCl _ _) (star_owns (box_owns _ _) (star_owns (rowO_owns elemM v raws) (rp_owns d s pv pq po pc)))) (HS9.out.mono fun _ => star_in3) (.slice p9 2 c9)
  rw [msg_cl] at hs10
  obtain ⟨r3, hr3⟩ : ∃ r, { r2 with p := p9, n := 2, cap := c9 } = r := ⟨_, rfl⟩
  have HR3 := Lib.hid hr3
  obtain ⟨W10, hW10⟩ : ∃ W, w9.setCell ⟨q, 61, none⟩ (.slice p9 2 c9) = W := ⟨_, rfl⟩
  rw [hr3, hW10] at hs10
  rw [hW10]
  have hs11 : SEnd (star (RowO elemCl (.slice r3.p r3.n r3.cap) [(⟨n1, i1, h1⟩ : Cl), ⟨n2, i2, h2⟩]) (star (BoxA q (msgO r3)) (star (RowO elemM v raws) (RP d s pv pq po pc)))) H w W10 := by
   have := (hs10.swap.mono fun _ => star_in3).drop
   rw [← hr3] at this ⊢
   exact this
  have HS10 := Lib.hid hs11
  clear hs10 hs11 hr3 hW10 q9 f9 hql9 HS9 HA HSrc2 m61 hql z0 z1 z2 hbl2 HS8
  have hd := rp_at HS10.out.assoc'.assoc'
  have hm := msgAt (SEnd.at HS10.out.swap)
  have hlt := hd.lt
  have hql := hm.lt
  have d8 := hd.c8
  have m61 := hm.c61
  unfold bptr at d8
  have HQd := Lib.hid (SEnd.below (star_owns (rowO_owns elemCl _ _) (star_owns (box_owns _ _) (star_owns (rowO_owns elemM v raws) (rp_owns d s pv pq po pc)))) HS10.out (ext_drew (ext_refl W10)))
  have hql8 : ((qout s.Q).map Td.c).length ≤ 2 := by rw [List.length_map]; unfold qout qcount; rw [List.length_take]; omega
  clear hd hm
  refine wp_region_taken [9] (fun k => k = d ∨ k = q) (by kernel_rfl) (n := 10) rfl (fresh := Array.replicate 10 false) rfl ?_
  refine wpT_batchK [0, 1, 2, 3, 4, 5] 4 rfl (by kernel_rfl) (by kernel_rfl) (by simp only [pickL, nthL, List.cons_append, List.nil_append]; rfl) ?_
  repeat (go_big_quiet_step (fail))
  refine wpQuiet_nil ?_
  refine wpT_call2 (i := 6) (d := some 51) (v0 := .pointer (some ⟨pq, 0, none⟩)) (v1 := .int .i64 2) (R := fun u W' => SEnd (star (RowO elemCl u ((qout s.Q).map Td.c)) (star (star (star (RowO elemCl (.slice r3.p r3.n r3.cap) [(⟨n1, i1, h1⟩ : Cl), ⟨n2, i2, h2⟩]) (BoxA q (msgO r3))) (RowO elemM v raws)) (RP d (sentD s) pv pq po pc))) H w W' ∧ GK (fun k => k = d ∨ k = q) W10.drew W') (by kernel_rfl) rfl (by rfl) rfl Tryz.call73 (by rfl) (by rfl) (rp_take (star_owns (star_owns (rowO_owns elemCl _ _) (box_owns _ _)) (rowO_owns elemM v raws)) HQd.out.assoc'.assoc' (fun k => k = q) (covl (covr covb))) (fun _ _ h => .inr h.2) rfl ?_
  intro u6 w6 hh6
  have HS16 := Lib.hid (hh6.1.mono fun _ => star_mono (fun _ h => h) fun _ h => star_assoc (star_assoc h))
  obtain ⟨p6, c6, hu6⟩ := SEnd.form hh6.1
  have HU6 := Lib.hid hu6
  clear hh6 hu6 d8 m61 hlt hql HQd HS10
  simp only [Act.put, List.setIfInBounds_toArray, List.set_cons_succ, List.set_cons_zero]
  refine wpT_appendS (E := elemCl) (i := 7) (d := some 52) (v := .slice r3.p r3.n r3.cap) (v2 := u6) (xs := [(⟨n1, i1, h1⟩ : Cl), ⟨n2, i2, h2⟩]) (l2 := (qout s.Q).map Td.c) (by kernel_rfl) rfl (by rfl) rfl rfl rfl (star_owns (rowO_owns elemCl _ _) (star_owns (box_owns _ _) (star_owns (rowO_owns elemM v raws) (rp_owns d (sentD s) pv pq po pc)))) HS16.out.swap HS16.out.src (by show (_ + _) * 24 ≤ _; simp only [List.length_cons, List.length_nil]; omega) (cov_or (cov_next (cov_next (cov_next cov_box))) (cov_next cov_box)) rfl ?_
  intro v17 w17 hs17 hg17
  simp only [Act.put, List.setIfInBounds_toArray, List.set_cons_succ, List.set_cons_zero]
  have hm := msgAt (SEnd.at (hs17.mono fun _ => star_in3))
  have q17 := hm.c61
  have g17 := hm.f 61
  obtain ⟨p17, c17, rfl⟩ := SEnd.form hs17
  have HS17 := Lib.hid hs17
  clear hm hs17 hg17 HS16 HU6
  refine wpT_batchK [8] 1 rfl (by kernel_rfl) (by kernel_rfl) (by simp only [pickL, nthL, List.cons_append, List.nil_append]; rfl) ?_
  repeat (go_big_quiet_step (fail))
  refine wpQuiet_nil ?_
  refine wpT_store (i := 9) (w' := w17.setCell ⟨q, 61, none⟩ (.slice p17 ([(⟨n1, i1, h1⟩ : Cl), ⟨n2, i2, h2⟩] ++ (qout s.Q).map Td.c).length c17)) (by kernel_rfl) rfl (by rfl) (by simp [execOp, go_sem, q17, g17]) (.inl rfl) rfl ?_
  refine wpT_end (by kernel_rfl) ?_
  have hs18 := SEnd.store (off := 61) (star_owns (rowO_owns elemCl _ _) (star_owns (rowO_owns elemCl _ _) (star_owns (rowO_owns elemM v raws) (rp_owns d (sentD s) pv pq po pc)))) (HS17.out.mono fun _ => star_in3) (.slice p17 ([(⟨n1, i1, h1⟩ : Cl), ⟨n2, i2, h2⟩] ++ (qout s.Q).map Td.c).length c17)
  rw [msg_cl] at hs18
  obtain ⟨r7, hr7⟩ : ∃ r, { r3 with p := p17, n := ([(⟨n1, i1, h1⟩ : Cl), ⟨n2, i2, h2⟩] ++ (qout s.Q).map Td.c).length, cap := c17 } = r := ⟨_, rfl⟩
  have HR7 := Lib.hid hr7
  obtain ⟨W18, hW18⟩ : ∃ W, w17.setCell ⟨q, 61, none⟩ (.slice p17 ([(⟨n1, i1, h1⟩ : Cl), ⟨n2, i2, h2⟩] ++ (qout s.Q).map Td.c).length c17) = W := ⟨_, rfl⟩
  rw [hr7, hW18] at hs18
  rw [hW18]
  clear hr7 hW18 q17 g17 HS17
  have HS18 := Lib.hid hs18
  have hm := msgAt (SEnd.at hs18)
  have hql := hm.lt
  have hbox7 := SEnd.at hs18
  have HSrc := Lib.hid (srcE_one (E := elemM) (x := r7) (heap_alloc_new W18 (.cells r7.enc.toArray 46)) rfl)
  have HMs := Lib.hid (SEnd.below (star_owns (box_owns _ _) (star_owns (rowO_owns elemCl _ _) (star_owns (rowO_owns elemCl _ _) (star_owns (rowO_owns elemM v raws) (rp_owns d (sentD s) pv pq po pc))))) hs18 (ext_alloc (ext_refl W18) (.cells r7.enc.toArray 46)))
  clear hs18 hm HS18
  go_wp2_with (first | (refine wpList_load_msg rfl _ rfl rfl hbox7 ?_) | (refine wpList_build_msg rfl _ rfl rfl ?_) | (at_builtin; refine wpListS_append (E := elemM) (xs := raws) (l2 := [r7]) rfl _ _ rfl rfl rfl (star_owns (box_owns _ _) (star_owns (rowO_owns elemCl _ _) (star_owns (rowO_owns elemCl _ _) (rp_owns d (sentD s) pv pq po pc)))) (HMs.out.mono fun _ => star_in4) HSrc.out (by show (_ + 1) * 552 ≤ _; omega) ?_; intro v19 w19 hs19 hg19; have HS19 := Lib.hid hs19; clear hs19 hg19))
  go_ret
  have hs19 := HS19.out
  have e7 : r7 = ⟨kind, s.self, dst, seq, for', about, p17, ([(⟨n1, i1, h1⟩ : Cl), ⟨n2, i2, h2⟩] ++ (qout s.Q).map Td.c).length, c17⟩ := by rw [← HR7.out, ← HR3.out, ← HR2.out, ← HR1.out, ← HR0.out]
  have ec : [(⟨n1, i1, h1⟩ : Cl), ⟨n2, i2, h2⟩] ++ (qout s.Q).map Td.c = claimsTo s dst := by unfold claimsTo; rw [HC1.out, HC2.out]; rw [if_pos GA.out]; rfl
  rw [e7] at hs19
  refine ⟨v19, rfl, ((hs19.swap.drop.mono fun _ => star_in3).drop).mono fun H' h => ⟨p17, ([(⟨n1, i1, h1⟩ : Cl), ⟨n2, i2, h2⟩] ++ (qout s.Q).map Td.c).length, c17, ?_⟩⟩
  rw [← ec]
  exact star_mono (fun _ h => h) (fun _ h => star_mono (fun _ h => h) (fun _ h => ⟨⟨HOk.out.self, HOk.out.inc, HOk.out.now, HOk.out.seq, HOk.out.asked⟩, pv, pq, po, pc, h⟩) h) h
 by_cases gb : h2 = 3
 ·have g2 : (h2 == 2) = false := by rw [beq_eq_false_iff_ne]; exact ga
  have g3 : (h2 == 3) = true := by simpa using gb
  have GA : Hid (h2 = 2 ∨ h2 = 3) := Lib.hid (.inr gb)
  clear ga gb
  have hm := msgAt (SEnd.at (HS8.out.mono fun _ => star_in3))
  have m61 := hm.c61
  have hql := hm.lt
  have HA := Lib.hid (SEnd.below (star_owns (rowO_owns elemCl _ _) (star_owns (box_owns _ _) (star_owns (box_owns _ _) (star_owns (rowO_owns elemM v raws) (rp_owns d s pv pq po pc))))) HS8.out.swap (ext_alloc (ext_refl W8) (.cells #[.int .i64 n2, .int .i64 i2, .int .i64 h2] 30)))
  have HSrc2 := Lib.hid (srcE_one (E := elemCl) (x := ⟨n2, i2, h2⟩) (heap_alloc_new W8 (.cells #[.int .i64 n2, .int .i64 i2, .int .i64 h2] 30)) rfl)
  clear hm
  go_wp2_with (at_builtin; go_loud (refine wpListS_append (E := elemCl) (xs := [(⟨n1, i1, h1⟩ : Cl)]) (l2 := [(⟨n2, i2, h2⟩ : Cl)]) rfl _ _ rfl rfl rfl (star_owns (box_owns _ _) (star_owns (box_owns _ _) (star_owns (rowO_owns elemM v raws) (rp_owns d s pv pq po pc)))) HA.out HSrc2.out (by show (1 + 1) * 24 ≤ 140737488355328; omega) ?_; intro v9 w9 hs9 hg9; have hm9 := msgAt (SEnd.at (hs9.mono fun _ => star_in3)); have q9 := hm9.c61; have f9 := hm9.f 61; have hql9 := hm9.lt; obtain ⟨p9, c9, rfl⟩ : ∃ p c, v9 = .slice p 2 c := SEnd.form hs9; have HS9 := Lib.hid hs9; clear hm9 hs9 hg9))
  have hs10 := SEnd.store (off := 61) (star_owns (rowO_owns elemCl _ _) (star_owns (box_owns _ _) (star_owns (rowO_owns elemM v raws) (rp_owns d s pv pq po pc)))) (HS9.out.mono fun _ => star_in3) (.slice p9 2 c9)
  rw [msg_cl] at hs10
  obtain ⟨r3, hr3⟩ : ∃ r, { r2 with p := p9, n := 2, cap := c9 } = r := ⟨_, rfl⟩
  have HR3 := Lib.hid hr3
  obtain ⟨W10, hW10⟩ : ∃ W, w9.setCell ⟨q, 61, none⟩ (.slice p9 2 c9) = W := ⟨_, rfl⟩
  rw [hr3, hW10] at hs10
  rw [hW10]
  have hs11 : SEnd (star (RowO elemCl (.slice r3.p r3.n r3.cap) [(⟨n1, i1, h1⟩ : Cl), ⟨n2, i2, h2⟩]) (star (BoxA q (msgO r3)) (star (RowO elemM v raws) (RP d s pv pq po pc)))) H w W10 := by
   have := (hs10.swap.mono fun _ => star_in3).drop
   rw [← hr3] at this ⊢
   exact this
  have HS10 := Lib.hid hs11
  clear hs10 hs11 hr3 hW10 q9 f9 hql9 HS9 HA HSrc2 m61 hql z0 z1 z2 hbl2 HS8
  have hd := rp_at HS10.out.assoc'.assoc'
  have hm := msgAt (SEnd.at HS10.out.swap)
  have hlt := hd.lt
  have hql := hm.lt
  have d8 := hd.c8
  have m61 := hm.c61
  unfold bptr at d8
  have HQd := Lib.hid (SEnd.below (star_owns (rowO_owns elemCl _ _) (star_owns (box_owns _ _) (star_owns (rowO_owns elemM v raws) (rp_owns d s pv pq po pc)))) HS10.out (ext_drew (ext_refl W10)))
  have hql8 : ((qout s.Q).map Td.c).length ≤ 2 := by rw [List.length_map]; unfold qout qcount; rw [List.length_take]; omega
  clear hd hm
  refine wp_region_taken [9] (fun k => k = d ∨ k = q) (by kernel_rfl) (n := 10) rfl (fresh := Array.replicate 10 false) rfl ?_
  refine wpT_batchK [0, 1, 2, 3, 4, 5] 4 rfl (by kernel_rfl) (by kernel_rfl) (by simp only [pickL, nthL, List.cons_append, List.nil_append]; rfl) ?_
  repeat (go_big_quiet_step (fail))
  refine wpQuiet_nil ?_
  refine wpT_call2 (i := 6) (d := some 51) (v0 := .pointer (some ⟨pq, 0, none⟩)) (v1 := .int .i64 2) (R := fun u W' => SEnd (star (RowO elemCl u ((qout s.Q).map Td.c)) (star (star (star (RowO elemCl (.slice r3.p r3.n r3.cap) [(⟨n1, i1, h1⟩ : Cl), ⟨n2, i2, h2⟩]) (BoxA q (msgO r3))) (RowO elemM v raws)) (RP d (sentD s) pv pq po pc))) H w W' ∧ GK (fun k => k = d ∨ k = q) W10.drew W') (by kernel_rfl) rfl (by rfl) rfl Tryz.call73 (by rfl) (by rfl) (rp_take (star_owns (star_owns (rowO_owns elemCl _ _) (box_owns _ _)) (rowO_owns elemM v raws)) HQd.out.assoc'.assoc' (fun k => k = q) (covl (covr covb))) (fun _ _ h => .inr h.2) rfl ?_
  intro u6 w6 hh6
  have HS16 := Lib.hid (hh6.1.mono fun _ => star_mono (fun _ h => h) fun _ h => star_assoc (star_assoc h))
  obtain ⟨p6, c6, hu6⟩ := SEnd.form hh6.1
  have HU6 := Lib.hid hu6
  clear hh6 hu6 d8 m61 hlt hql HQd HS10
  simp only [Act.put, List.setIfInBounds_toArray, List.set_cons_succ, List.set_cons_zero]
  refine wpT_appendS (E := elemCl) (i := 7) (d := some 52) (v := .slice r3.p r3.n r3.cap) (v2 := u6) (xs := [(⟨n1, i1, h1⟩ : Cl), ⟨n2, i2, h2⟩]) (l2 := (qout s.Q).map Td.c) (by kernel_rfl) rfl (by rfl) rfl rfl rfl (star_owns (rowO_owns elemCl _ _) (star_owns (box_owns _ _) (star_owns (rowO_owns elemM v raws) (rp_owns d (sentD s) pv pq po pc)))) HS16.out.swap HS16.out.src (by show (_ + _) * 24 ≤ _; simp only [List.length_cons, List.length_nil]; omega) (cov_or (cov_next (cov_next (cov_next cov_box))) (cov_next cov_box)) rfl ?_
  intro v17 w17 hs17 hg17
  simp only [Act.put, List.setIfInBounds_toArray, List.set_cons_succ, List.set_cons_zero]
  have hm := msgAt (SEnd.at (hs17.mono fun _ => star_in3))
  have q17 := hm.c61
  have g17 := hm.f 61
  obtain ⟨p17, c17, rfl⟩ := SEnd.form hs17
  have HS17 := Lib.hid hs17
  clear hm hs17 hg17 HS16 HU6
  refine wpT_batchK [8] 1 rfl (by kernel_rfl) (by kernel_rfl) (by simp only [pickL, nthL, List.cons_append, List.nil_append]; rfl) ?_
  repeat (go_big_quiet_step (fail))
  refine wpQuiet_nil ?_
  refine wpT_store (i := 9) (w' := w17.setCell ⟨q, 61, none⟩ (.slice p17 ([(⟨n1, i1, h1⟩ : Cl), ⟨n2, i2, h2⟩] ++ (qout s.Q).map Td.c).length c17)) (by kernel_rfl) rfl (by rfl) (by simp [execOp, go_sem, q17, g17]) (.inl rfl) rfl ?_
  refine wpT_end (by kernel_rfl) ?_
  have hs18 := SEnd.store (off := 61) (star_owns (rowO_owns elemCl _ _) (star_owns (rowO_owns elemCl _ _) (star_owns (rowO_owns elemM v raws) (rp_owns d (sentD s) pv pq po pc)))) (HS17.out.mono fun _ => star_in3) (.slice p17 ([(⟨n1, i1, h1⟩ : Cl), ⟨n2, i2, h2⟩] ++ (qout s.Q).map Td.c).length c17)
  rw [msg_cl] at hs18
  obtain ⟨r7, hr7⟩ : ∃ r, { r3 with p := p17, n := ([(⟨n1, i1, h1⟩ : Cl), ⟨n2, i2, h2⟩] ++ (qout s.Q).map Td.c).length, cap := c17 } = r := ⟨_, rfl⟩
  have HR7 := Lib.hid hr7
  obtain ⟨W18, hW18⟩ : ∃ W, w17.setCell ⟨q, 61, none⟩ (.slice p17 ([(⟨n1, i1, h1⟩ : Cl), ⟨n2, i2, h2⟩] ++ (qout s.Q).map Td.c).length c17) = W := ⟨_, rfl⟩
  rw [hr7, hW18] at hs18
  rw [hW18]
  clear hr7 hW18 q17 g17 HS17
  have HS18 := Lib.hid hs18
  have hm := msgAt (SEnd.at hs18)
  have hql := hm.lt
  have hbox7 := SEnd.at hs18
  have HSrc := Lib.hid (srcE_one (E := elemM) (x := r7) (heap_alloc_new W18 (.cells r7.enc.toArray 46)) rfl)
  have HMs := Lib.hid (SEnd.below (star_owns (box_owns _ _) (star_owns (rowO_owns elemCl _ _) (star_owns (rowO_owns elemCl _ _) (star_owns (rowO_owns elemM v raws) (rp_owns d (sentD s) pv pq po pc))))) hs18 (ext_alloc (ext_refl W18) (.cells r7.enc.toArray 46)))
  clear hs18 hm HS18
  go_wp2_with (first | (refine wpList_load_msg rfl _ rfl rfl hbox7 ?_) | (refine wpList_build_msg rfl _ rfl rfl ?_) | (at_builtin; refine wpListS_append (E := elemM) (xs := raws) (l2 := [r7]) rfl _ _ rfl rfl rfl (star_owns (box_owns _ _) (star_owns (rowO_owns elemCl _ _) (star_owns (rowO_owns elemCl _ _) (rp_owns d (sentD s) pv pq po pc)))) (HMs.out.mono fun _ => star_in4) HSrc.out (by show (_ + 1) * 552 ≤ _; omega) ?_; intro v19 w19 hs19 hg19; have HS19 := Lib.hid hs19; clear hs19 hg19))
  go_ret
  have hs19 := HS19.out
  have e7 : r7 = ⟨kind, s.self, dst, seq, for', about, p17, ([(⟨n1, i1, h1⟩ : Cl), ⟨n2, i2, h2⟩] ++ (qout s.Q).map Td.c).length, c17⟩ := by rw [← HR7.out, ← HR3.out, ← HR2.out, ← HR1.out, ← HR0.out]
  have ec : [(⟨n1, i1, h1⟩ : Cl), ⟨n2, i2, h2⟩] ++ (qout s.Q).map Td.c = claimsTo s dst := by unfold claimsTo; rw [HC1.out, HC2.out]; rw [if_pos GA.out]; rfl
  rw [e7] at hs19
  refine ⟨v19, rfl, ((hs19.swap.drop.mono fun _ => star_in3).drop).mono fun H' h => ⟨p17, ([(⟨n1, i1, h1⟩ : Cl), ⟨n2, i2, h2⟩] ++ (qout s.Q).map Td.c).length, c17, ?_⟩⟩
  rw [← ec]
  exact star_mono (fun _ h => h) (fun _ h => star_mono (fun _ h => h) (fun _ h => ⟨⟨HOk.out.self, HOk.out.inc, HOk.out.now, HOk.out.seq, HOk.out.asked⟩, pv, pq, po, pc, h⟩) h) h
 ·have g2 : (h2 == 2) = false := by rw [beq_eq_false_iff_ne]; exact ga
  have g3 : (h2 == 3) = false := by rw [beq_eq_false_iff_ne]; exact gb
  go_wp2_with fail
  have HS9 := Lib.hid HS8.out.drop
  clear z0 z1 z2 hbl2 HS8
  have hd := rp_at HS9.out.assoc'.assoc'
  have hm := msgAt (SEnd.at HS9.out.swap)
  have hlt := hd.lt
  have hql := hm.lt
  have d8 := hd.c8
  have m61 := hm.c61
  unfold bptr at d8
  have HQd := Lib.hid (SEnd.below (star_owns (rowO_owns elemCl _ _) (star_owns (box_owns _ _) (star_owns (rowO_owns elemM v raws) (rp_owns d s pv pq po pc)))) HS9.out (ext_drew (ext_refl W8)))
  have hql8 : ((qout s.Q).map Td.c).length ≤ 2 := by rw [List.length_map]; unfold qout qcount; rw [List.length_take]; omega
  clear hd hm
  refine wp_region_taken [9] (fun k => k = d ∨ k = q) (by kernel_rfl) (n := 10) rfl (fresh := Array.replicate 10 false) rfl ?_
  refine wpT_batchK [0, 1, 2, 3, 4, 5] 4 rfl (by kernel_rfl) (by kernel_rfl) (by simp only [pickL, nthL, List.cons_append, List.nil_append]; rfl) ?_
  repeat (go_big_quiet_step (fail))
  refine wpQuiet_nil ?_
  refine wpT_call2 (i := 6) (d := some 51) (v0 := .pointer (some ⟨pq, 0, none⟩)) (v1 := .int .i64 2) (R := fun u W' => SEnd (star (RowO elemCl u ((qout s.Q).map Td.c)) (star (star (star (RowO elemCl (.slice r2.p r2.n r2.cap) [(⟨n1, i1, h1⟩ : Cl)]) (BoxA q (msgO r2))) (RowO elemM v raws)) (RP d (sentD s) pv pq po pc))) H w W' ∧ GK (fun k => k = d ∨ k = q) W8.drew W') (by kernel_rfl) rfl (by rfl) rfl Tryz.call73 (by rfl) (by rfl) (rp_take (star_owns (star_owns (rowO_owns elemCl _ _) (box_owns _ _)) (rowO_owns elemM v raws)) HQd.out.assoc'.assoc' (fun k => k = q) (covl (covr covb))) (fun _ _ h => .inr h.2) rfl ?_
  intro u6 w6 hh6
  have HS16 := Lib.hid (hh6.1.mono fun _ => star_mono (fun _ h => h) fun _ h => star_assoc (star_assoc h))
  obtain ⟨p6, c6, hu6⟩ := SEnd.form hh6.1
  have HU6 := Lib.hid hu6
  clear hh6 hu6 d8 m61 hlt hql HQd HS9
  simp only [Act.put, List.setIfInBounds_toArray, List.set_cons_succ, List.set_cons_zero]
  refine wpT_appendS (E := elemCl) (i := 7) (d := some 52) (v := .slice r2.p r2.n r2.cap) (v2 := u6) (xs := [(⟨n1, i1, h1⟩ : Cl)]) (l2 := (qout s.Q).map Td.c) (by kernel_rfl) rfl (by rfl) rfl rfl rfl (star_owns (rowO_owns elemCl _ _) (star_owns (box_owns _ _) (star_owns (rowO_owns elemM v raws) (rp_owns d (sentD s) pv pq po pc)))) HS16.out.swap HS16.out.src (by show (_ + _) * 24 ≤ _; simp only [List.length_cons, List.length_nil]; omega) (cov_or (cov_next (cov_next (cov_next cov_box))) (cov_next cov_box)) rfl ?_
  intro v17 w17 hs17 hg17
  simp only [Act.put, List.setIfInBounds_toArray, List.set_cons_succ, List.set_cons_zero]
  have hm := msgAt (SEnd.at (hs17.mono fun _ => star_in3))
  have q17 := hm.c61
  have g17 := hm.f 61
  obtain ⟨p17, c17, rfl⟩ := SEnd.form hs17
  have HS17 := Lib.hid hs17
  clear hm hs17 hg17 HS16 HU6
  refine wpT_batchK [8] 1 rfl (by kernel_rfl) (by kernel_rfl) (by simp only [pickL, nthL, List.cons_append, List.nil_append]; rfl) ?_
  repeat (go_big_quiet_step (fail))
  refine wpQuiet_nil ?_
  refine wpT_store (i := 9) (w' := w17.setCell ⟨q, 61, none⟩ (.slice p17 ([(⟨n1, i1, h1⟩ : Cl)] ++ (qout s.Q).map Td.c).length c17)) (by kernel_rfl) rfl (by rfl) (by simp [execOp, go_sem, q17, g17]) (.inl rfl) rfl ?_
  refine wpT_end (by kernel_rfl) ?_
  have hs18 := SEnd.store (off := 61) (star_owns (rowO_owns elemCl _ _) (star_owns (rowO_owns elemCl _ _) (star_owns (rowO_owns elemM v raws) (rp_owns d (sentD s) pv pq po pc)))) (HS17.out.mono fun _ => star_in3) (.slice p17 ([(⟨n1, i1, h1⟩ : Cl)] ++ (qout s.Q).map Td.c).length c17)
  rw [msg_cl] at hs18
  obtain ⟨r7, hr7⟩ : ∃ r, { r2 with p := p17, n := ([(⟨n1, i1, h1⟩ : Cl)] ++ (qout s.Q).map Td.c).length, cap := c17 } = r := ⟨_, rfl⟩
  have HR7 := Lib.hid hr7
  obtain ⟨W18, hW18⟩ : ∃ W, w17.setCell ⟨q, 61, none⟩ (.slice p17 ([(⟨n1, i1, h1⟩ : Cl)] ++ (qout s.Q).map Td.c).length c17) = W := ⟨_, rfl⟩
  rw [hr7, hW18] at hs18
  rw [hW18]
  clear hr7 hW18 q17 g17 HS17
  have HS18 := Lib.hid hs18
  have hm := msgAt (SEnd.at hs18)
  have hql := hm.lt
  have hbox7 := SEnd.at hs18
  have HSrc := Lib.hid (srcE_one (E := elemM) (x := r7) (heap_alloc_new W18 (.cells r7.enc.toArray 46)) rfl)
  have HMs := Lib.hid (SEnd.below (star_owns (box_owns _ _) (star_owns (rowO_owns elemCl _ _) (star_owns (rowO_owns elemCl _ _) (star_owns (rowO_owns elemM v raws) (rp_owns d (sentD s) pv pq po pc))))) hs18 (ext_alloc (ext_refl W18) (.cells r7.enc.toArray 46)))
  clear hs18 hm HS18
  go_wp2_with (first | (refine wpList_load_msg rfl _ rfl rfl hbox7 ?_) | (refine wpList_build_msg rfl _ rfl rfl ?_) | (at_builtin; refine wpListS_append (E := elemM) (xs := raws) (l2 := [r7]) rfl _ _ rfl rfl rfl (star_owns (box_owns _ _) (star_owns (rowO_owns elemCl _ _) (star_owns (rowO_owns elemCl _ _) (rp_owns d (sentD s) pv pq po pc)))) (HMs.out.mono fun _ => star_in4) HSrc.out (by show (_ + 1) * 552 ≤ _; omega) ?_; intro v19 w19 hs19 hg19; have HS19 := Lib.hid hs19; clear hs19 hg19))
  go_ret
  have hs19 := HS19.out
  have e7 : r7 = ⟨kind, s.self, dst, seq, for', about, p17, ([(⟨n1, i1, h1⟩ : Cl)] ++ (qout s.Q).map Td.c).length, c17⟩ := by rw [← HR7.out, ← HR2.out, ← HR1.out, ← HR0.out]
  have ec : [(⟨n1, i1, h1⟩ : Cl)] ++ (qout s.Q).map Td.c = claimsTo s dst := by unfold claimsTo; rw [HC1.out, HC2.out]; rw [if_neg (by dsimp only; omega)]; rfl
  rw [e7] at hs19
  refine ⟨v19, rfl, ((hs19.swap.drop.mono fun _ => star_in3).drop).mono fun H' h => ⟨p17, ([(⟨n1, i1, h1⟩ : Cl)] ++ (qout s.Q).map Td.c).length, c17, ?_⟩⟩
  rw [← ec]
  exact star_mono (fun _ h => h) (fun _ h => star_mono (fun _ h => h) (fun _ h => ⟨⟨HOk.out.self, HOk.out.inc, HOk.out.now, HOk.out.seq, HOk.out.asked⟩, pv, pq, po, pc, h⟩) h) h
end Go.Proofs.YtjbihgfdgaiecaaGreat

/- The reference's detector: Hear, Leave. -/
namespace Go.Proofs.YtjbihgfdgaiecaaGreat
open Go Go.RowKit Go.BigFrame
set_option maxHeartbeats 1000000 in
set_option maxRecDepth 100000 in
theorem hearRCall_any (d : Nat) (s : DS) (c : Cl) : Trip Tryz.prog 9 #[bptr d, c.val] (RDet d s) fun u => pureA (u = .int .i64 (hearCall s c).2) (RDet d (hearCall s c).1) := by
 intro w H hp
 have hs0 := sEnd_refl hp
 have HS0 := Lib.hid hs0
 obtain ⟨n, i, h⟩ := c
 unfold Cl.val
 dsimp only
 obtain ⟨a, ha⟩ : ∃ a, mayB n i h = a := ⟨_, rfl⟩
 obtain ⟨b, hb⟩ : ∃ b, nothingB i h = b := ⟨_, rfl⟩
 have HM : Hid (∀ W, Gives Tryz.prog 38 #[.agg #[.int .i64 n, .int .i64 i, .int .i64 h]] W (.bool a)) := Lib.hid fun W => (refMay_any n i h W).cast (by rw [ha])
 have HN : Hid (∀ W, Gives Tryz.prog 39 #[.agg #[.int .i64 n, .int .i64 i, .int .i64 h]] W (.bool b)) := Lib.hid fun W => (refNothing_any n i h W).cast (by rw [hb])
 have HD : Hid (hearCall s ⟨n, i, h⟩ = if a = false ∨ b = true then (s, 1) else hearD s ⟨n, i, h⟩) := Lib.hid (by rw [← ha, ← hb]; rfl)
 clear hp hs0 ha hb
 unfold bptr
 cases a with
 | false =>
  go_enter Tryz.func9, Tryz.ntmps9
  go_wp2_with fail
  refine Gives.mono' (HM.out _) ?_
  intro x1
  go_wp2_with fail
  go_ret
  exact ⟨_, rfl, by rw [HD.out]; exact (SEnd.below (rdet_owns d s) HS0.out (by repeat (first | exact ext_refl _ | refine ext_alloc ?_ _ | refine ext_later ?_ _ | refine ext_drew ?_ | refine ext_drewN ?_ _))).mono fun _ h => ⟨rfl, h⟩⟩
 | true =>
  cases b with
  | true =>
   go_enter Tryz.func9, Tryz.ntmps9
   go_wp2_with fail
   refine Gives.mono' (HM.out _) ?_
   intro x1
   go_wp2_with fail
   refine Gives.mono' (HN.out _) ?_
   intro x2
   go_wp2_with fail
   go_ret
   exact ⟨_, rfl, by rw [HD.out]; exact (SEnd.below (rdet_owns d s) HS0.out (by repeat (first | exact ext_refl _ | refine ext_alloc ?_ _ | refine ext_later ?_ _ | refine ext_drew ?_ | refine ext_drewN ?_ _))).mono fun _ h => ⟨rfl, h⟩⟩
  | false =>
   go_enter Tryz.func9, Tryz.ntmps9
   go_wp2_with fail
   refine Gives.mono' (HM.out _) ?_
   intro x1
   go_wp2_with fail
   refine Gives.mono' (HN.out _) ?_
   intro x2
   have HS2 := Lib.hid (SEnd.below (rdet_owns d s) HS0.out (W2 := x2.w) (by repeat (first | exact ext_refl _ | refine ext_alloc ?_ _ | refine ext_later ?_ _ | refine ext_drew ?_ | refine ext_drewN ?_ _)))
   go_wp2_with fail
   refine (Trip.end_ HS2.out (hearRD_any d s ⟨n, i, h⟩)).mono ?_
   rintro e w3 ⟨u, rfl, hs3⟩
   obtain ⟨rfl, hs4⟩ := hs3.pure
   have HS3 := Lib.hid hs4
   clear hs3 hs4
   go_wp2_with fail
   go_ret
   exact ⟨_, rfl, by rw [HD.out]; exact HS3.out.mono fun _ h => ⟨rfl, h⟩⟩
def LeaveEnd (d : Nat) (s : DS) (H : Nat → Prop) (w : World) (e : Ending) (w' : World) : Prop := ∃ u, e = .returned u ∧ SEnd (pureA (u = (leaveD s).2.val) (RDet d (leaveD s).1)) H w w'
set_option maxHeartbeats 4000000 in
set_option maxRecDepth 100000 in
theorem leaveRD_any (d : Nat) (s : DS) : Trip Tryz.prog 11 #[bptr d] (RDet d s) fun u => pureA (u = (leaveD s).2.val) (RDet d (leaveD s).1) := by
 intro w H hp0
 show Calls _ _ _ _ (LeaveEnd d s H w)
 obtain ⟨hok, pv, pq, po, pc, hp⟩ := hp0
 have HOk := Lib.hid hok
 have hs1 := SEnd.box (rp_owns d s pv pq po pc) (sEnd_refl hp) (.cells #[.int .i64 0, .int .i64 0, .int .i64 0] 30)
 clear hp hok
 unfold bptr
 go_enter Tryz.func11, Tryz.ntmps11
 go_upto_region 1 with fail
 obtain ⟨r, hr⟩ : ∃ q, w.heap.size = q := ⟨_, rfl⟩
 obtain ⟨W1, hW1⟩ : ∃ W, w.alloc (.cells #[.int .i64 0, .int .i64 0, .int .i64 0] 30) = W := ⟨_, rfl⟩
 rw [hr, hW1] at hs1
 rw [hr, hW1]
 have HS1 := Lib.hid hs1
 have hd := rp_at hs1
 have hlt := hd.lt
 have d0 := hd.c0
 have d1 := hd.c1
 have HS1d := Lib.hid (SEnd.below (star_owns (box_owns _ _) (rp_owns d s pv pq po pc)) hs1 (ext_drew (ext_refl W1)))
 clear hs1 hr hW1 hd
 refine wp_region_taken [10] (fun k => k = d) (by kernel_rfl) (n := 11) rfl (fresh := Array.replicate 11 false) rfl ?_
 refine wpT_batchK [0, 1, 2, 3, 4, 5, 6, 7, 8] 2 rfl (by kernel_rfl) (by kernel_rfl) (by simp only [pickL, nthL, List.cons_append, List.nil_append]; rfl) ?_
 repeat (go_big_quiet_step (fail))
 refine wpQuiet_nil ?_
 refine wpT_just (i := 9) (by kernel_rfl) ?_
 refine opT_value (d := some 3) (v := .pointer (some ⟨W1.drew.heap.size, 0, none⟩)) (w' := W1.drew.alloc (.cells #[.int .i64 0, .int .i64 0, .int .i64 0] 30)) rfl (by rfl) (by simp [execOp, go_sem]) (.inr (GK.of_below (ext_alloc (ext_refl W1.drew) _) fun k hk => by subst hk; exact hlt)) rfl ?_
 simp only [Act.put, List.setIfInBounds_toArray, List.set_cons_succ, List.set_cons_zero]
 have hs2 := SEnd.box (star_owns (box_owns _ _) (rp_owns d s pv pq po pc)) HS1d.out (.cells #[.int .i64 0, .int .i64 0, .int .i64 0] 30)
 have hb2 := heap_alloc_new W1.drew (.cells #[.int .i64 0, .int .i64 0, .int .i64 0] 30)
 obtain ⟨b, hb⟩ : ∃ b, W1.drew.heap.size = b := ⟨_, rfl⟩
 obtain ⟨w2, hw2⟩ : ∃ W, W1.drew.alloc (.cells #[.int .i64 0, .int .i64 0, .int .i64 0] 30) = W := ⟨_, rfl⟩
 rw [hb, hw2] at hs2 hb2
 rw [hb, hw2]
 have HS2 := Lib.hid hs2
 have e0 : w2.cell? ⟨b, 0, none⟩ = some (.int .i64 0) := by simp [World.cell?, hb2]
 have e1 : w2.cell? ⟨b, 1, none⟩ = some (.int .i64 0) := by simp [World.cell?, hb2]
 have e2 : w2.cell? ⟨b, 2, none⟩ = some (.int .i64 0) := by simp [World.cell?, hb2]
 have f0 : w2.frozen? ⟨b, 0, none⟩ = false := by simp [World.frozen?, hb2]
 have f1 : w2.frozen? ⟨b, 1, none⟩ = false := by simp [World.frozen?, hb2]
 have f2 : w2.frozen? ⟨b, 2, none⟩ = false := by simp [World.frozen?, hb2]
 clear hs2 hb hw2 hb2 HS1d HS1 d0 d1 hlt
 refine wpT_store (i := 10) (w' := ((w2.setCell ⟨b, 0, none⟩ (.int .i64 s.self)).setCell ⟨b, 1, none⟩ (.int .i64 s.inc)).setCell ⟨b, 2, none⟩ (.int .i64 4)) (by kernel_rfl) rfl (by rfl) (by simp [execOp, go_sem, e0, e1, e2, f0, f1, f2]) (.inl rfl) rfl ?_
 refine wpT_end (by kernel_rfl) ?_
 have hs3 := SEnd.fill (n := s.self) (i := s.inc) (h := 4) (star_owns (box_owns _ _) (rp_owns d s pv pq po pc)) HS2.out
 obtain ⟨W3, hW3⟩ : ∃ W, ((w2.setCell ⟨b, 0, none⟩ (.int .i64 s.self)).setCell ⟨b, 1, none⟩ (.int .i64 s.inc)).setCell ⟨b, 2, none⟩ (.int .i64 4) = W := ⟨_, rfl⟩
 rw [hW3] at hs3 ⊢
 have HS3 := Lib.hid hs3
 clear hs3 hW3 e0 e1 e2 f0 f1 f2 HS2
 have hd := rp_at HS3.out.assoc'
 have hlt := hd.lt
 have d6 := hd.c6
 have f6 := hd.f 6
 clear hd
 have HFin : Hid (∀ (s' : DS) (W : World), leaveD s = (s', ⟨s.self, s.inc, 4⟩) → DsOk s' → SEnd (star (BoxA b (.cells #[.int .i64 s.self, .int .i64 s.inc, .int .i64 4] 30)) (star (BoxA r (.cells #[.int .i64 0, .int .i64 0, .int .i64 0] 30)) (RP d s' pv pq po pc))) H w W → LeaveEnd d s H w (.returned (.agg #[.int .i64 s.self, .int .i64 s.inc, .int .i64 4])) (((W.setCell ⟨r, 0, none⟩ (.int .i64 s.self)).setCell ⟨r, 1, none⟩ (.int .i64 s.inc)).setCell ⟨r, 2, none⟩ (.int .i64 4))) := Lib.hid fun s' W he hok' hs => by
  have h1 := SEnd.fill (n := s.self) (i := s.inc) (h := 4) (star_owns (box_owns _ _) (rp_owns d s' pv pq po pc)) hs.swap
  unfold LeaveEnd
  rw [he]
  exact ⟨_, rfl, h1.drop.drop.mono fun _ h => ⟨rfl, hok', pv, pq, po, pc, h⟩⟩
 cases hl : s.left with
 | true =>
  rw [hl] at d6
  have HL : Hid (leaveD s = (s, ⟨s.self, s.inc, 4⟩)) := Lib.hid (by unfold leaveD; rw [hl]; rfl)
  obtain ⟨b0, b1, b2⟩ := boxCl (SEnd.at HS3.out)
  obtain ⟨r0, r1, r2⟩ := boxCl (SEnd.at HS3.out.swap)
  have hbl : b < W3.heap.size := (Array.getElem?_eq_some_iff.1 (SEnd.at HS3.out)).1
  have hrl : r < W3.heap.size := (Array.getElem?_eq_some_iff.1 (SEnd.at HS3.out.swap)).1
  have z0 : W3.frozen? ⟨r, 0, none⟩ = false := by have h := SEnd.at HS3.out.swap; simp [World.frozen?, h]
  have z1 : W3.frozen? ⟨r, 1, none⟩ = false := by have h := SEnd.at HS3.out.swap; simp [World.frozen?, h]
  have z2 : W3.frozen? ⟨r, 2, none⟩ = false := by have h := SEnd.at HS3.out.swap; simp [World.frozen?, h]
  clear hl
  go_wp2_with fail
  exact bodyPost_ret (v := .agg #[.int .i64 s.self, .int .i64 s.inc, .int .i64 4]) (by simp [results, Tryz.results11, go_sem, r0, r1, r2]) rfl (HFin.out s _ HL.out HOk.out HS3.out)
 | false =>
  rw [hl] at d6
  have HL : Hid (leaveD s = (DS.tell { s with left := true } ⟨s.self, s.inc, 4⟩, ⟨s.self, s.inc, 4⟩)) := Lib.hid (by unfold leaveD; rw [hl]; rfl)
  have hs4 := rp_store (star_owns (box_owns b _) (box_owns r _)) HS3.out.assoc' 6 (.bool true) { s with left := true } rfl rfl rfl rfl rfl rfl
  have HS4 := Lib.hid hs4
  clear hl hs4
  go_upto_region 4 with fail
  obtain ⟨W4, hW4⟩ : ∃ W, W3.setCell ⟨d, 6, none⟩ (.bool true) = W := ⟨_, rfl⟩
  rw [hW4] at HS4 ⊢
  clear hW4 hlt d6 f6 HS3
  have hd := rp_at HS4.out
  have hlt := hd.lt
  have dp := hd.c7
  unfold bptr at dp
  clear hd
  obtain ⟨b0, b1, b2⟩ := boxCl (SEnd.at HS4.out.assoc)
  have hbl : b < W4.heap.size := (Array.getElem?_eq_some_iff.1 (SEnd.at HS4.out.assoc)).1
  have HS4d := Lib.hid (SEnd.below (star_owns (star_owns (box_owns b _) (box_owns r _)) (rp_owns d { s with left := true } pv pq po pc)) HS4.out (ext_drew (ext_refl W4)))
  refine wp_region_greedy (n := 6) (fresh := Array.replicate 6 false) (GK (fun k => k = d ∨ k = b)) (by kernel_rfl) rfl rfl ?_
  refine wpAnyK_batch [0, 1, 2, 3, 4] 1 rfl (by kernel_rfl) (by kernel_rfl) rfl (by simp only [pickL, nthL, List.cons_append, List.nil_append]; rfl) ?_
  repeat (go_big_quiet_step (fail))
  refine wpQuiet_nil ?_
  refine wpAnyG_call2 (i := 5) (d := some 26) (v0 := .pointer (some ⟨pv, 0, none⟩)) (v1 := .agg #[.int .i64 s.self, .int .i64 s.inc, .int .i64 4]) (R := fun u W' => u = .bool (heardB s.V ⟨s.self, s.inc, 4⟩) ∧ SEnd (star (star (BoxA b (.cells #[.int .i64 s.self, .int .i64 s.inc, .int .i64 4] 30)) (BoxA r (.cells #[.int .i64 0, .int .i64 0, .int .i64 0] 30))) (RP d { s with left := true, V := hearV s.V ⟨s.self, s.inc, 4⟩ } pv pq po pc)) H w W' ∧ GK (fun k => k = d ∨ k = b) W4.drew W') (by kernel_rfl) rfl (by rfl) rfl Tryz.call35 (by rfl) (by rfl) (rp_hear (star_owns (box_owns b _) (box_owns r _)) HS4d.out ⟨s.self, s.inc, 4⟩ (fun k => k = b) (covl covb)) (fun _ _ h => h.2.2) rfl ?_
  rintro _ w5 ⟨rfl, hs5, -⟩
  have HS5 := Lib.hid hs5
  clear hs5
  simp only [Act.put, List.setIfInBounds_toArray, List.set_cons_succ, List.set_cons_zero]
  refine wpAnyG_end (by kernel_rfl) ?_
  go_wp2_with fail
  clear b0 b1 b2 dp hlt hbl HS4 HS4d
  have hd := rp_at HS5.out
  have hlt := hd.lt
  have dp := hd.c8
  unfold bptr at dp
  clear hd
  obtain ⟨b0, b1, b2⟩ := boxCl (SEnd.at HS5.out.assoc)
  have hbl : b < w5.heap.size := (Array.getElem?_eq_some_iff.1 (SEnd.at HS5.out.assoc)).1
  have HS5d := Lib.hid (SEnd.below (star_owns (star_owns (box_owns b _) (box_owns r _)) (rp_owns d { s with left := true, V := hearV s.V ⟨s.self, s.inc, 4⟩ } pv pq po pc)) HS5.out (ext_drew (ext_refl w5)))
  refine wp_region_greedy (n := 6) (fresh := Array.replicate 6 false) (GK (fun k => k = d ∨ k = b)) (by kernel_rfl) rfl rfl ?_
  refine wpAnyK_batch [0, 1, 2, 3, 4] 1 rfl (by kernel_rfl) (by kernel_rfl) rfl (by simp only [pickL, nthL, List.cons_append, List.nil_append]; rfl) ?_
  repeat (go_big_quiet_step (fail))
  refine wpQuiet_nil ?_
  refine wpAnyG_call2 (i := 5) (d := some 32) (v0 := .pointer (some ⟨pq, 0, none⟩)) (v1 := .agg #[.int .i64 s.self, .int .i64 s.inc, .int .i64 4]) (R := fun u W' => u = .bool (putOf s.Q ⟨s.self, s.inc, 4⟩).2 ∧ SEnd (star (star (BoxA b (.cells #[.int .i64 s.self, .int .i64 s.inc, .int .i64 4] 30)) (BoxA r (.cells #[.int .i64 0, .int .i64 0, .int .i64 0] 30))) (RP d { s with left := true, V := hearV s.V ⟨s.self, s.inc, 4⟩, Q := qput s.Q ⟨s.self, s.inc, 4⟩ } pv pq po pc)) H w W' ∧ GK (fun k => k = d ∨ k = b) w5.drew W') (by kernel_rfl) rfl (by rfl) rfl Tryz.call42 (by rfl) (by rfl) (rp_put (star_owns (box_owns b _) (box_owns r _)) HS5d.out ⟨s.self, s.inc, 4⟩ (fun k => k = b) (covl covb)) (fun _ _ h => h.2.2) rfl ?_
  rintro _ w6 ⟨rfl, hs6, -⟩
  have HS6 := Lib.hid hs6.assoc
  clear hs6
  simp only [Act.put, List.setIfInBounds_toArray, List.set_cons_succ, List.set_cons_zero]
  refine wpAnyG_end (by kernel_rfl) ?_
  clear b0 b1 b2 dp hlt hbl HS5 HS5d
  obtain ⟨b0, b1, b2⟩ := boxCl (SEnd.at HS6.out)
  obtain ⟨r0, r1, r2⟩ := boxCl (SEnd.at HS6.out.swap)
  have hbl : b < w6.heap.size := (Array.getElem?_eq_some_iff.1 (SEnd.at HS6.out)).1
  have hrl : r < w6.heap.size := (Array.getElem?_eq_some_iff.1 (SEnd.at HS6.out.swap)).1
  have z0 : w6.frozen? ⟨r, 0, none⟩ = false := by have h := SEnd.at HS6.out.swap; simp [World.frozen?, h]
  have z1 : w6.frozen? ⟨r, 1, none⟩ = false := by have h := SEnd.at HS6.out.swap; simp [World.frozen?, h]
  have z2 : w6.frozen? ⟨r, 2, none⟩ = false := by have h := SEnd.at HS6.out.swap; simp [World.frozen?, h]
  go_wp2_with fail
  exact bodyPost_ret (v := .agg #[.int .i64 s.self, .int .i64 s.inc, .int .i64 4]) (by simp [results, Tryz.results11, go_sem, r0, r1, r2]) rfl (HFin.out { s with left := true, V := hearV s.V ⟨s.self, s.inc, 4⟩, Q := qput s.Q ⟨s.self, s.inc, 4⟩ } _ HL.out ⟨HOk.out.self, HOk.out.inc, HOk.out.now, HOk.out.seq, HOk.out.asked⟩ HS6.out)
end Go.Proofs.YtjbihgfdgaiecaaGreat

/- The reference's detector: NewDetector. -/
namespace Go.Proofs.YtjbihgfdgaiecaaGreat
open Go Go.RowKit
theorem order_new {V Q O C : Asn} {W : World} {H : Nat → Prop} (h : star C (star O (star Q (star V emp))) W H) : star V (star Q (star O C)) W H := by
 have h1 := star_mono (P' := C) (fun _ h => h) (fun _ h => star_mono (P' := O) (fun _ h => h) (fun _ h => star_comm (star_mono (P' := Q) (fun _ h => h) (fun _ h => emp_right h) h)) h) h
 have h2 := star_in3 (star_mono (P' := C) (fun _ h => h) (fun _ h => star_mono (P' := O) (fun _ h => h) (fun _ h => h) h) h1 : star C (star O (star V Q)) W H)
 exact star_mono (fun _ h => h) (fun _ h => star_mono (fun _ h => h) (fun _ h => star_comm h) (star_swap (star_mono (fun _ h => h) (fun _ h => star_comm h) h))) h2
def validD (self inc : Int) : Prop := (0 ≤ self ∧ self < 8) ∧ 0 ≤ inc ∧ inc ≤ 1000000
def NewDEnd (self inc : Int) (w : World) (e : Ending) (w' : World) : Prop := ∃ d, e = .returned (bptr d) ∧ SEnd (RDet d (newD self inc)) (fun _ => False) w w'
def newD0 (self inc : Int) : DS := ⟨self, inc, 0, 0, -1, false, false, view0, [], [], []⟩
theorem newD_ok {self inc : Int} (h : validD self inc) : DsOk (newD self inc) := ⟨h.1, h.2, by show (0 : Int) ≤ 0 ∧ (0 : Int) ≤ 100000; omega, by show (0 : Int) ≤ 0 ∧ (0 : Int) ≤ 1000000; omega, by show (-1 : Int) ≤ -1 ∧ (-1 : Int) < 8; omega⟩
theorem ordRA_new (w : World) (self : Int) : OrdRA w.heap.size self [] (w.alloc (.cells #[.int .i64 self, .slice none 0 0] 83)) fun k => k = w.heap.size :=
 ⟨by simp, .slice none 0 0, heap_alloc_new w _, .inl ⟨rfl, none, 0, rfl⟩, fun k => ⟨.inl, fun h => h.elim id fun h => absurd rfl h.1⟩⟩
theorem clkRA_new (w : World) : ClkRA w.heap.size [] (w.alloc (.cells #[.slice none 0 0] 86)) fun k => k = w.heap.size :=
 ⟨FineM.nil, .slice none 0 0, heap_alloc_new w _, ⟨rowAt_own (E := elemMo) (xs := []) (World.ownsRow_nil _ 0 _ _), none, 0, rfl, Nat.le_refl _, fun _ => rfl⟩, fun k => ⟨.inl, fun h => h.elim id fun h => absurd rfl h.1⟩⟩
set_option maxHeartbeats 4000000 in
set_option maxRecDepth 100000 in
theorem newRD_any (self inc : Int) (w : World) (hv : validD self inc) : Calls Tryz.prog 7 #[.int .i64 self, .int .i64 inc] w (NewDEnd self inc w) := by
 have HOk := Lib.hid (newD_ok hv)
 obtain ⟨h0, h1, h2⟩ := hv
 have HN : Hid (∀ W, Gives Tryz.prog 32 #[.int .i64 self] W (.bool true)) := Lib.hid fun W => (refNode_any self W).cast (by rw [show nodeB self = true from by simp [nodeB]; omega])
 have g1 : decide (inc < 0) = false := decide_eq_false (by omega)
 have g2 : decide (1000000 < inc) = false := decide_eq_false (by omega)
 go_enter Tryz.func7, Tryz.ntmps7
 go_wp2_with fail
 refine Gives.mono' (HN.out _) ?_
 intro x1
 have HE := Lib.hid (sEnd_emp x1.below)
 go_wp2_with fail
 refine (newRV_any _).mono ?_
 rintro e w1 ⟨rfl, hvw, hb1⟩
 have hs1 := SEnd.fresh (Q := ViewRA x1.w.heap.size view0) (HQ := fun k => k = x1.w.heap.size) emp_owns (viewRA_owns _ _) HE.out hb1 ⟨⟨hvw, vwOk_zero⟩, fun _ => Iff.rfl⟩ (fun k hk => Nat.le_of_eq hk.symm)
 obtain ⟨pv, hpv⟩ : ∃ b, x1.w.heap.size = b := ⟨_, rfl⟩
 rw [hpv] at hs1
 rw [hpv]
 have HS1 := Lib.hid hs1
 clear hs1 hpv hvw hb1 HE
 go_wp2_with fail
 refine (newQ_any 3 _ 3 (by decide)).mono ?_
 rintro e w2 ⟨rfl, hq, hb2⟩
 have hs2 := SEnd.fresh (Q := QueRA w1.heap.size []) (HQ := fun k => k = w1.heap.size) (star_owns (viewRA_owns _ _) emp_owns) (queRA_owns _ _) HS1.out hb2 ⟨[], hq, List.Perm.refl _, FineQ.nil⟩ (fun k hk => Nat.le_of_eq hk.symm)
 obtain ⟨pq, hpq⟩ : ∃ b, w1.heap.size = b := ⟨_, rfl⟩
 rw [hpq] at hs2
 rw [hpq]
 have hs3 := SEnd.fresh (star_owns (queRA_owns _ _) (star_owns (viewRA_owns _ _) emp_owns)) (ordRA_owns _ _ _) hs2 (ext_alloc (ext_refl w2) _) (ordRA_new w2 self) (fun k hk => Nat.le_of_eq hk.symm)
 have hs4 := SEnd.fresh (star_owns (ordRA_owns _ _ _) (star_owns (queRA_owns _ _) (star_owns (viewRA_owns _ _) emp_owns))) (clkRA_owns _ _) hs3 (ext_alloc (ext_refl _) _) (clkRA_new _) (fun k hk => Nat.le_of_eq hk.symm)
 have hs4' := hs4.mono fun _ h => order_new h
 have HS4 := Lib.hid hs4'
 clear hs2 hs3 hs4 hs4' hq hb2 HS1 hpq
 go_upto_region 4 with fail
 have hz1 : ∀ o : Obj, (w2.alloc o).heap.size = w2.heap.size + 1 := fun o => World.size_alloc w2 o
 have hs5 := HS4.out
 rw [hz1] at hs5
 have hs6 := SEnd.box (star_owns (viewRA_owns pv view0) (star_owns (queRA_owns pq []) (star_owns (ordRA_owns _ self []) (clkRA_owns _ [])))) hs5 (detO (newD0 self inc) pv pq w2.heap.size (w2.heap.size + 1))
 rw [World.size_alloc, hz1] at hs6
 have hs7 : SEnd (RP (w2.heap.size + 1 + 1) (newD0 self inc) pv pq w2.heap.size (w2.heap.size + 1)) (fun _ => False) w _ := hs6
 obtain ⟨W3, hW3⟩ : ∃ W, ((w2.alloc (.cells #[.int .i64 self, .slice none 0 0] 83)).alloc (.cells #[.slice none 0 0] 86)).alloc (detO (newD0 self inc) pv pq w2.heap.size (w2.heap.size + 1)) = W := ⟨_, rfl⟩
 rw [hW3] at hs7
 change Code.wp _ _ _ _ (((w2.alloc (.cells #[.int .i64 self, .slice none 0 0] 83)).alloc (.cells #[.slice none 0 0] 86)).alloc (detO (newD0 self inc) pv pq w2.heap.size (w2.heap.size + 1)))
 rw [hW3]
 clear hs5 hs6 hW3 HS4 hz1
 obtain ⟨pc, hpc⟩ : ∃ b, w2.heap.size + 1 = b := ⟨_, rfl⟩
 rw [hpc] at hs7 ⊢
 obtain ⟨d, hd⟩ : ∃ b, pc + 1 = b := ⟨_, rfl⟩
 rw [hd] at hs7 ⊢
 clear hpc hd
 obtain ⟨po, hpo⟩ : ∃ b, w2.heap.size = b := ⟨_, rfl⟩
 rw [hpo] at hs7 ⊢
 clear hpo
 have HS7 := Lib.hid hs7
 have hd := rp_at0 hs7
 have hlt := hd.lt
 have dp := hd.c7
 unfold bptr at dp
 clear hs7 hd
 go_wp2_with fail
 refine (SEnd.callP HS7.out (P := ViewRA pv view0) (Q := star (BoxA d (detO (newD0 self inc) pv pq po pc)) (star (QueRA pq []) (star (OrdRA po self []) (ClkRA pc [])))) (P' := ViewRA pv (hearV view0 ⟨self, inc, 1⟩))
  (fun _ _ h => star_swap h) (star_owns (box_owns _ _) (star_owns (queRA_owns _ _) (star_owns (ordRA_owns _ _ _) (clkRA_owns _ _)))) (hearRV_any pv view0 ⟨self, inc, 1⟩) (fun k => k = d) cov1 (fun _ _ h => star_swap h)).mono ?_
 rintro _ w4 ⟨_, rfl, rfl, hs8, -⟩
 have HS8 := Lib.hid hs8
 clear hs8 dp hlt
 go_wp2_with fail
 go_ret
 exact ⟨d, rfl, HS8.out.mono fun _ h => ⟨HOk.out, pv, pq, po, pc, h⟩⟩
end Go.Proofs.YtjbihgfdgaiecaaGreat
