/- SwimModel: SwimModel. -/
import Derived.Test.YtjbihgfdgaiecaaPC
import Derived.Test.YtjbihgfdgaiecaaPD
import Derived.Test.YtjbihgfdgaiecaaPB
import Derived.Test.YtjbihgfdgaiecaaPA
import Derived.BigRegion
import Derived.RegionTactic
import Derived.LoopTactic
import Derived.Laws.Cells
namespace Go.Proofs.Ytjbihgfdgaiecaa
section
open Go Go.RowKit
/- The queue: sorted by how often each claim was told, and by node. -/
def insT (t : Td) : List Td → List Td
  | [] => [t]
  | x :: l => if lessT t x then t :: x :: l else x :: insT t l
def srtT (L : List Td) : List Td := L.foldr insT []
def SortedT (L : List Td) : Prop := L.Pairwise Td.lt
theorem insT_perm (t : Td) : ∀ L : List Td, (insT t L).Perm (t :: L)
  | [] => List.Perm.refl _
  | x :: l => by
    unfold insT
    split
    · exact List.Perm.refl _
    · exact ((insT_perm t l).cons x).trans (List.Perm.swap t x l)
theorem srtT_perm : ∀ L : List Td, (srtT L).Perm L
  | [] => List.Perm.refl _
  | x :: l => (insT_perm x (srtT l)).trans ((srtT_perm l).cons x)
theorem insT_sorted (t : Td) : ∀ {L : List Td}, SortedT L → (∀ x ∈ L, x.c.n ≠ t.c.n) → SortedT (insT t L)
  | [], _, _ => List.pairwise_singleton _ _
  | x :: l, h, hn => by
    have hx := List.pairwise_cons.1 h
    unfold insT
    split
    · rename_i hlt
      have hlt' : t.lt x := by simpa [lessT] using hlt
      refine List.pairwise_cons.2 ⟨fun y hy => ?_, h⟩
      rcases List.mem_cons.1 hy with rfl | hy
      · exact hlt'
      · exact Td.lt_trans hlt' (hx.1 y hy)
    · rename_i hlt
      have hxt : x.lt t := Td.lt_total (by simpa [lessT] using hlt) fun e => hn x List.mem_cons_self e.symm
      refine List.pairwise_cons.2 ⟨fun y hy => ?_, insT_sorted t hx.2 fun y hy => hn y (List.mem_cons_of_mem _ hy)⟩
      rcases List.mem_cons.1 ((insT_perm t l).subset hy) with rfl | hy
      · exact hxt
      · exact hx.1 y hy
theorem srtT_sorted : ∀ {L : List Td}, Once L → SortedT (srtT L)
  | [], _ => List.Pairwise.nil
  | x :: l, h => by
    have hx := List.pairwise_cons.1 h
    exact insT_sorted x (srtT_sorted hx.2) fun y hy => fun e => hx.1 y ((srtT_perm l).subset hy) e.symm
theorem sortedT_unique : ∀ {L M : List Td}, SortedT L → SortedT M → L.Perm M → L = M
  | [], M, _, _, h => h.nil_eq
  | x :: L, [], _, _, h => by have := h.length_eq; simp at this
  | x :: L, y :: M, hL, hM, h => by
    have hx := List.pairwise_cons.1 hL
    have hy := List.pairwise_cons.1 hM
    have e : x = y := by
      rcases List.mem_cons.1 (h.subset List.mem_cons_self) with e | e
      · exact e
      · rcases List.mem_cons.1 (h.symm.subset List.mem_cons_self) with e' | e'
        · exact e'.symm
        · exact absurd (hx.1 y e') (Td.lt_asymm (hy.1 x e))
    subst e
    rw [sortedT_unique hx.2 hy.2 (List.Perm.cons_inv h)]
/-- The queue as it is put in order. -/
structure FineQ (L : List Td) : Prop where
  fine : Fine 3 L
  sorted : SortedT L
theorem FineQ.nil : FineQ [] := ⟨Fine.nil (by omega) (by omega), List.Pairwise.nil⟩
theorem FineQ.of {L : List Td} (h : Fine 3 L) : FineQ (srtT L) := ⟨h.perm (srtT_perm L).symm, srtT_sorted h.once⟩
theorem FineQ.len {L : List Td} (h : FineQ L) : L.length ≤ 8 := h.fine.len
def qput (L : List Td) (c : Cl) : List Td := srtT (putOf L c).1
def qcount (L : List Td) : Nat := min 2 L.length
def qout (L : List Td) : List Td := L.take (qcount L)
def qrest (L : List Td) : List Td := srtT (L.drop (qcount L) ++ backOf 3 (qout L))
theorem FineQ.put {L : List Td} (h : FineQ L) (c : Cl) : FineQ (qput L c) := .of (h.fine.put c)
theorem FineQ.picked {L : List Td} (h : FineQ L) (k : Nat) : Picked L (L.take k) (L.drop k) := by
  have hs := h.sorted
  unfold SortedT at hs
  rw [← List.take_append_drop k L, List.pairwise_append] at hs
  exact ⟨by rw [List.take_append_drop], hs.1, hs.2.2⟩
theorem FineQ.rest {L : List Td} (h : FineQ L) : FineQ (qrest L) := .of (h.fine.take (h.picked _) (List.Perm.refl _))

/- What is believed. -/
/-- Each node's own place; what may be, or nothing. -/
def VwOk (V : Vw) : Prop := ∀ k, k < 8 → (V k).n = k ∧ (((V k).i = 0 ∧ (V k).h = 0) ∨ ((0 ≤ (V k).i ∧ (V k).i ≤ 1000000) ∧ 1 ≤ (V k).h ∧ (V k).h ≤ 4))
def view0 : Vw := fun k => ⟨k, 0, 0⟩
theorem vwOk_zero : VwOk view0 := fun _ _ => ⟨rfl, .inl ⟨rfl, rfl⟩⟩
/-- What a detector holds. -/
structure DS where
  self : Int
  inc : Int
  now : Int
  seq : Int
  asked : Int
  over : Bool
  left : Bool
  V : Vw
  Q : List Td
  O : List Int
  C : List Mo
def DS.tell (s : DS) (c : Cl) : DS := { s with V := hearV s.V c, Q := qput s.Q c }
/-- To hear a claim: what is held then, and the error. -/
def hearD (s : DS) (c : Cl) : DS × Int :=
  if c.n = s.self then
    if refE s.self s.inc c.n c.i c.h ≠ 0 then ({ s with over := true }, refE s.self s.inc c.n c.i c.h)
    else if s.inc < refN s.self s.inc c.n c.i c.h then ({ s with inc := refN s.self s.inc c.n c.i c.h }.tell ⟨s.self, refN s.self s.inc c.n c.i c.h, 1⟩, 0)
    else (s, 0)
  else if heardB s.V c then ({ s with V := hearV s.V c, Q := qput s.Q c, C := if c.h = 2 then setM s.C ⟨100 + c.n, s.now + 6⟩ else cutM s.C (100 + c.n) }, 0)
  else (s, 0)
/-- The claims that a message to a node bears. -/
def claimsTo (s : DS) (dst : Int) : List Cl :=
  [ofV s.V s.self] ++ (if (ofV s.V dst).h = 2 ∨ (ofV s.V dst).h = 3 then [ofV s.V dst] else []) ++ (qout s.Q).map Td.c
def sentD (s : DS) : DS := { s with Q := qrest s.Q }
structure MM where
  kind : Int
  frm : Int
  dst : Int
  seq : Int
  for' : Int
  about : Int
  claims : List Cl
/-- To send: what is held then, and the message. -/
def sendD (s : DS) (kind dst seq for' about : Int) : DS × MM := (sentD s, ⟨kind, s.self, dst, seq, for', about, claimsTo s dst⟩)
/-- What is due: a moment. -/
def dueD (peers : List Int) (draw : Int) (x : DS × List MM) (id : Int) : DS × List MM :=
  if 100 ≤ id then (if (ofV x.1.V (id - 100)).h = 2 then ((hearD x.1 ⟨(ofV x.1.V (id - 100)).n, (ofV x.1.V (id - 100)).i, 3⟩).1, x.2) else x)
  else if id = 1 then
    (some' ((peersOf peers x.1.self).filter fun p => !(p == x.1.asked)) 2 draw).foldl (fun y p => ((sendD y.1 3 p y.1.seq 0 y.1.asked).1, y.2 ++ [(sendD y.1 3 p y.1.seq 0 y.1.asked).2])) x
  else if id = 2 then
    ({ (if (ofV x.1.V x.1.asked).h = 1 then (hearD x.1 ⟨(ofV x.1.V x.1.asked).n, (ofV x.1.V x.1.asked).i, 2⟩).1 else x.1) with asked := -1 }, x.2)
  else x
/-- Whom to ask next. -/
def askD (peers : List Int) (draw : Int) (x : DS × List MM) : DS × List MM :=
  if 0 ≤ x.1.asked then x
  else
    let n := nextOf x.1.self x.1.O peers draw
    let s1 : DS := { x.1 with asked := n.1, O := n.2 }
    if n.1 < 0 then (s1, x.2)
    else
      let s2 : DS := { s1 with seq := if 1000000 < s1.seq + 1 then 1 else s1.seq + 1 }
      let y := sendD s2 1 s2.asked s2.seq s2.self 0
      ({ y.1 with C := setM (setM y.1.C ⟨1, y.1.now + 2⟩) ⟨2, y.1.now + 4⟩ }, x.2 ++ [y.2])
def tickD (s : DS) (peers : List Int) (draw : Int) : DS × List MM :=
  let s0 : DS := { s with now := s.now + 1 }
  if s.left then (s0, [])
  else askD peers draw ((dueM s0.C s0.now).foldl (fun x m => dueD peers draw x m.n) ({ s0 with C := restM s0.C s0.now }, []))
/-- The claims of a message, heard: the valid ones, four at most. -/
def heardM (s : DS) (l : List Cl) : DS := ((l.filter mayK).take 4).foldl (fun s c => if nothingK c then s else (hearD s c).1) s
def fromD (s : DS) (frm : Int) : DS := if (ofV s.V frm).h = 4 then s else (hearD s ⟨frm, (ofV s.V frm).i, 1⟩).1
def handleD (s : DS) (m : MM) : DS × List MM :=
  if m.dst ≠ s.self ∨ nodeB m.frm = false ∨ m.frm = s.self then (s, [])
  else
    let s1 := fromD (heardM s m.claims) m.frm
    if m.kind = 2 ∧ m.for' = s1.self then
      (if m.seq = s1.seq ∧ 0 ≤ s1.asked then { s1 with C := cutM (cutM s1.C 1) 2, asked := -1 } else s1, [])
    else if s1.left then (s1, [])
    else if m.kind = 1 then ((sendD s1 2 m.frm m.seq m.for' 0).1, [(sendD s1 2 m.frm m.seq m.for' 0).2])
    else if m.kind = 2 ∧ nodeB m.for' = true then ((sendD s1 2 m.for' m.seq m.for' 0).1, [(sendD s1 2 m.for' m.seq m.for' 0).2])
    else if m.kind = 3 ∧ nodeB m.about = true ∧ m.about ≠ s1.self then ((sendD s1 1 m.about m.seq m.frm 0).1, [(sendD s1 1 m.about m.seq m.frm 0).2])
    else (s1, [])
def hearCall (s : DS) (c : Cl) : DS × Int := if mayK c = false ∨ nothingK c = true then (s, 1) else hearD s c
def leaveD (s : DS) : DS × Cl := (if s.left then s else { s with left := true }.tell ⟨s.self, s.inc, 4⟩, ⟨s.self, s.inc, 4⟩)
def newD (self inc : Int) : DS := ⟨self, inc, 0, 0, -1, false, false, hearV view0 ⟨self, inc, 1⟩, [], [], []⟩
end
end Go.Proofs.Ytjbihgfdgaiecaa

/- RefView: RefView. -/
namespace Go.Proofs.Ytjbihgfdgaiecaa
section
open Go Go.RowKit
theorem mayK_node {c : Cl} (hm : mayK c = true) : 0 ≤ c.n ∧ c.n < 8 := by unfold mayK mayB at hm; simp only [decide_eq_true_eq] at hm; exact hm.1
/-- Of a claim that says nothing none is greater. -/
theorem nothing_low {V : Vw} (hV : VwOk V) {c : Cl} (hm : mayK c = true) (hn : nothingK c = true) : cmpK c (V c.n.toNat) ≤ 0 := by
  have hnb := mayK_node hm
  have h1 := (hV c.n.toNat (by omega)).2
  simp only [nothingK, nothingB, decide_eq_true_eq] at hn
  unfold cmpK
  rw [hn.1, hn.2, cmpC_le]
  omega
theorem VwOk.hear {V : Vw} (hV : VwOk V) (c : Cl) : VwOk (hearV V c) := by
  unfold hearV
  split
  · rename_i h
    simp only [heardB, Bool.and_eq_true, decide_eq_true_eq] at h
    have hnb := mayK_node h.1
    have hm := h.1
    unfold mayK mayB at hm
    simp only [decide_eq_true_eq] at hm
    intro k hk
    unfold putV
    split
    · rename_i e
      refine ⟨by omega, ?_⟩
      rcases hm.2 with h2 | h2
      · exact .inl h2
      · exact .inr h2
    · exact hV k hk
  · exact hV
end
end Go.Proofs.Ytjbihgfdgaiecaa

/- RefAll: RefAll. -/
namespace Go.Proofs.Ytjbihgfdgaiecaa
section
open Go Go.RowKit
def elemCl : Elem Try.prog Cl where
  enc c := [.int .i64 c.n, .int .i64 c.i, .int .i64 c.h]
  k := 3
  pos := by decide
  len _ := rfl
  one _ u hu := by
    simp only [List.mem_cons, List.not_mem_nil, or_false] at hu
    rcases hu with rfl | rfl | rfl <;> rfl
  t := 23
  sl := 37
  under := Try.underlying37
  z := .agg #[.int .i64 0, .int .i64 0, .int .i64 0]
  bytes := 24
  bpos := by decide
  info := by kernel_rfl
  zs := by kernel_rfl
/-- The first k places have their nodes. -/
def upTo (k : Nat) : Vw := fun j => if j < k then ⟨j, 0, 0⟩ else Cl.zero
theorem nothing_h {V : Vw} (hV : VwOk V) {k : Nat} (hk : k < 8) : nothingB (V k).i (V k).h = ((V k).h == 0) := by
  have := (hV k hk).2
  unfold nothingB
  rw [Bool.eq_iff_iff]
  simp only [decide_eq_true_eq, beq_iff_eq]
  omega
end
end Go.Proofs.Ytjbihgfdgaiecaa

/- RefParts: RefParts. -/
namespace Go.Proofs.Ytjbihgfdgaiecaa
section
open Go Go.RowKit
/-- A row of the call's own: all of its block. -/
def RowO {α : Type} (E : Elem Try.prog α) (v : Value) (xs : List α) : Asn := fun W H => W.ownsRow 0 E.t E.k v xs.length (E.cells xs) ∧ ∀ k, H k ↔ v.ownBlock = some k
theorem rowO_owns {α : Type} (E : Elem Try.prog α) (v : Value) (xs : List α) : Owns (RowO E v xs) where
  lt W F h k hk := (h.1.lt k ((h.2 k).1 hk)).2
  kept W W' F h hs hk := ⟨row_keepsE h.1 fun g hg => hk g ((h.2 g).2 hg), h.2⟩
theorem row_zeroE {W : World} {e : TypeId} {size n base : Nat} {v : Value} {xs : List Value} (h : W.ownsRow base e size v n xs) : W.ownsRow 0 e size v n xs := by
  refine ⟨h.1, ?_⟩
  rcases h.2 with h2 | ⟨g, cap, cur, rfl, _, rest⟩
  · exact .inl h2
  · exact .inr ⟨g, cap, cur, rfl, Nat.zero_le _, rest⟩
theorem RowO.src {α : Type} {E : Elem Try.prog α} {v : Value} {xs : List α} {W : World} {H : Nat → Prop} (h : RowO E v xs W H) : SrcE E W v xs := ⟨rowAt_own h.1, ownsRow_formE h.1⟩
/-- A new row beside what a call has left. -/
theorem row_beside {α : Type} {E : Elem Try.prog α} {v : Value} {xs : List α} {P : Asn} (hP : Owns P) {W W' : World} {H H' : Nat → Prop} (hr : W'.ownsRow W.heap.size E.t E.k v xs.length (E.cells xs)) (hp : P W' H') (hf : Fr H W W') (hg : ∀ k, H' k → H k ∨ W.heap.size ≤ k) (hn : ∀ k, v.ownBlock = some k → ¬ H' k) : SEnd (star (RowO E v xs) P) H W W' :=
  ⟨fun k => v.ownBlock = some k ∨ H' k, ⟨fun k => v.ownBlock = some k, H', ⟨row_zeroE hr, fun _ => Iff.rfl⟩, hp, fun k hk => hn k hk, fun _ => Iff.rfl⟩, hf, fun k hk => by
    rcases hk with hk | hk
    · exact .inr (hr.lt k hk).1
    · exact hg k hk⟩
section queue
theorem qput_of {R L : List Td} (hp : R.Perm L) (hL : FineQ L) (c : Cl) : (putOf R c).2 = (putOf L c).2 ∧ (putOf R c).1.Perm (qput L c) := by
  obtain ⟨h1, h2⟩ := putOf_perm hp (once_perm hp.symm hL.fine.once) c
  exact ⟨h1, h2.trans (srtT_perm _).symm⟩
theorem qtake_of {R L O rem : List Td} (hp : R.Perm L) (hL : FineQ L) (hk : Picked R O rem) (hn : (O.length : Int) = min (max (2 : Int) 0) (R.length : Int)) : O = qout L ∧ rem.Perm (L.drop (qcount L)) := by
  have hl := hp.length_eq
  exact picked_unique O R L _ _ _ hk (hL.picked (qcount L)) hp (by show O.length = (L.take (qcount L)).length; rw [List.length_take]; unfold qcount; omega)
end queue
section clock
theorem wideE {P : Asn} {m : Nat} {H F' : Nat → Prop} {W W' : World} (hm : ∀ k, k = m → H k) (h1 : P W' F') (h2 : Fr (fun k => k = m) W W') (h3 : ∀ k, F' k → H k ∨ W.heap.size ≤ k) : SEnd P H W W' :=
  ⟨F', h1, ⟨h2.os, h2.tape, h2.output, h2.size, fun k hk hn => h2.block k hk fun e => hn (hm k e)⟩, h3⟩
def aftSet (L : List Mo) (x : Mo) : List Mo := if okM x then setM L x else L
end clock
section order
theorem ints_rowAt {W : World} {v : Value} {l : List Int} (h : RowAt elemI W v l) : IntsAt W v l := by
  obtain ⟨p, cap, rfl, hr⟩ := h.form
  rcases hr with rfl | ⟨b, o, rfl, hlt, hc⟩
  · exact .inl ⟨rfl, _, _, rfl⟩
  · refine .inr ⟨b, o, cap, rfl, hlt, fun k x hk => ?_⟩
    have := hc k x hk 0 _ rfl
    rw [show k * elemI.k = k from Nat.mul_one k, Nat.add_zero] at this
    exact this
theorem nextOf_small {self : Int} {rest peers : List Int} {draw : Int} (hr : rest.length ≤ 64) : (nextOf self rest peers draw).2.length ≤ 64 := by
  unfold nextOf
  split
  · exact hr
  · show (leftNow rest (peersOf peers self) draw).tail.length ≤ 64
    rw [List.length_tail]
    have : (leftNow rest (peersOf peers self) draw).length ≤ 64 := by
      unfold leftNow
      split
      · have h1 := shuf_len (peersOf peers self) draw
        have h2 := peersOf_len peers self
        omega
      · rename_i x r e
        rw [← e]
        exact Nat.le_trans (List.length_filter_le _ _) hr
    omega
end order
end
end Go.Proofs.Ytjbihgfdgaiecaa

/- ProParts: ProParts. -/
namespace Go.Proofs.Ytjbihgfdgaiecaa
section
open Go Go.RowKit
section view
/-- The landed view keeps no node where nothing is said. -/
def Like (V' V : Vw) : Prop := ∀ k, k < 8 → (V' k).i = (V k).i ∧ (V' k).h = (V k).h ∧ ((V k).h ≠ 0 → V' k = V k)
theorem like_zero : Like emptyV view0 := fun k _ => ⟨rfl, rfl, fun h => absurd rfl h⟩
theorem Like.heard {V' V : Vw} (h : Like V' V) (c : Cl) : heardB V' c = heardB V c := by
  unfold heardB
  cases hm : mayK c with
  | false => rfl
  | true =>
    have hn := mayK_node hm
    obtain ⟨h1, h2, _⟩ := h c.n.toNat (by omega)
    unfold cmpK
    rw [h1, h2]
theorem Like.hear {V' V : Vw} (h : Like V' V) (c : Cl) : Like (hearV V' c) (hearV V c) := by
  unfold hearV
  rw [h.heard c]
  split
  · intro k hk
    unfold putV
    split
    · exact ⟨rfl, rfl, fun _ => rfl⟩
    · exact h k hk
  · exact h
theorem Like.of {V' V : Vw} (h : Like V' V) (n : Int) : ofV V' n = ofV V n := by
  unfold ofV
  split
  · rename_i hn
    obtain ⟨h1, h2, _⟩ := h n.toNat (by omega)
    rw [h1, h2]
  · rfl
theorem Like.said {V' V : Vw} (h : Like V' V) : saidV V' = saidV V := by
  unfold saidV saidUp
  rw [List.filter_map, List.filter_map]
  have e : List.filter ((fun c : Cl => c.h != 0) ∘ fun j => V' j) (List.range 8) = List.filter ((fun c : Cl => c.h != 0) ∘ fun j => V j) (List.range 8) := by
    apply List.filter_congr
    intro k hk
    have hk' : k < 8 := List.mem_range.1 hk
    simp only [Function.comp_apply, (h k hk').2.1]
  rw [e]
  apply List.map_congr_left
  intro k hk
  obtain ⟨h1, h2⟩ := List.mem_filter.1 hk
  exact (h k (List.mem_range.1 h1)).2.2 (by simpa using h2)
def ViewBA (b : Nat) (V : Vw) : Asn := fun W H => ((∃ V', ViewAt W b V' ∧ Like V' V) ∧ VwOk V) ∧ ∀ k, H k ↔ k = b
theorem viewBA_owns (b : Nat) (V : Vw) : Owns (ViewBA b V) where
  lt W F h k hk := by
    obtain ⟨⟨⟨V', hv, _⟩, _⟩, hF⟩ := h
    rw [(hF k).1 hk]
    exact hv.lt
  kept W W' F h _ hk := by
    obtain ⟨⟨⟨V', hv, hl⟩, hok⟩, hF⟩ := h
    exact ⟨⟨⟨V', (hk b ((hF b).2 rfl)).trans hv, hl⟩, hok⟩, hF⟩
theorem viewB_hear (b : Nat) (V : Vw) (c : Cl) : Trip Try.prog 42 #[.pointer (some ⟨b, 0, none⟩), c.val] (ViewBA b V) fun u => pureA (u = .bool (heardB V c)) (ViewBA b (hearV V c)) := by
  rintro W H ⟨⟨⟨V', hv, hl⟩, hok⟩, hF⟩
  refine (hear_any b V' c W hv).mono fun e W' ⟨he, h1, h2⟩ => ⟨_, he, fun k => k = b, ⟨by rw [hl.heard], ⟨⟨_, h1, hl.hear c⟩, hok.hear c⟩, fun _ => Iff.rfl⟩, Fr.of_grownBy h2 fun j hj => .inl ((hF j).2 (by simpa using hj.symm)), fun k hk => .inl ((hF k).2 hk)⟩
theorem viewB_of (b : Nat) (V : Vw) (n : Int) (W : World) (H : Nat → Prop) (h : ViewBA b V W H) : Gives Try.prog 36 #[.pointer (some ⟨b, 0, none⟩), .int .i64 n] W (ofV V n).val := by
  obtain ⟨⟨⟨V', hv, hl⟩, _⟩, _⟩ := h
  exact (of_any b V' n W hv).cast (by rw [hl.of])
theorem viewB_all (b : Nat) (V : Vw) (W : World) (H : Nat → Prop) (h : ViewBA b V W H) : Calls Try.prog 37 #[.pointer (some ⟨b, 0, none⟩)] W fun e W' => ∃ v, e = .returned v ∧ MadeE elemCl W W' v (saidV V) := by
  obtain ⟨⟨⟨V', hv, hl⟩, _⟩, _⟩ := h
  exact (all_any b V' W hv).mono fun e W' ⟨v, he, h1, h2⟩ => ⟨v, he, by rw [hl.said] at h1; exact h1, h2⟩
end view
section queue
def QueBA (q : Nat) (L : List Td) : Asn := fun W H => ∃ R, RumQ q 3 R W H ∧ IsHeap lessT R.length R ∧ R.Perm L ∧ FineQ L
theorem queBA_owns (q : Nat) (L : List Td) : Owns (QueBA q L) where
  lt W F h := by obtain ⟨R, h, _⟩ := h; exact (rumQ_owns q 3 R).lt W F h
  kept W W' F h hs hk := by obtain ⟨R, h, h2⟩ := h; exact ⟨R, (rumQ_owns q 3 R).kept W W' F h hs hk, h2⟩
theorem queB_put (q : Nat) (L : List Td) (c : Cl) : Trip Try.prog 58 #[.pointer (some ⟨q, 0, none⟩), c.val] (QueBA q L) fun u => pureA (u = .bool (putOf L c).2) (QueBA q (qput L c)) := by
  rintro W H ⟨R, h, hh, hp, hL⟩
  have hl := hp.length_eq
  have hl8 := hL.len
  obtain ⟨e1, e2⟩ := qput_of hp hL c
  exact (putR_any q 3 R c W H h hh (by omega)).mono fun e W' ⟨he, R', hpm, hh', F', h1, h2, h3⟩ => ⟨_, he, F', ⟨by rw [e1], R', h1, hh', hpm.trans e2, hL.put c⟩, h2, h3⟩
theorem queB_take (q : Nat) (L : List Td) : Trip Try.prog 75 #[.pointer (some ⟨q, 0, none⟩), .int .i64 2] (QueBA q L) fun u => star (RowO elemCl u ((qout L).map Td.c)) (QueBA q (qrest L)) := by
  rintro W H ⟨R, h, hh, hp, hL⟩
  have hfR := hL.fine.perm hp.symm
  refine (takeR_any q 3 R 2 W H h hh (by have := hfR.len; omega) hfR.once (fun t ht => by have := (hfR.good t ht).2.2; omega)).mono ?_
  rintro e W' ⟨u, O, rem, R', F', he, hpk, hc, hrow, hap, hh', hpm, hr', hfr, hs⟩
  obtain ⟨rfl, hrem⟩ := qtake_of hp hL hpk hc
  exact ⟨u, he, row_beside (queBA_owns q _) (by rw [List.length_map]; exact hrow) ⟨R', hr', hh', hpm.trans ((hrem.append_right _).trans (srtT_perm _).symm), hL.rest⟩ hfr hs hap⟩
end queue
section order
def OrdBA (m : Nat) (self : Int) (rest : List Int) : Asn := pureA (rest.length ≤ 64) (ProO m self rest)
theorem ordBA_owns (m : Nat) (self : Int) (rest : List Int) : Owns (OrdBA m self rest) := pureA_owns (proO_owns m self rest)
theorem ordB_next (m : Nat) (self : Int) (rest peers : List Int) (draw : Int) (v : Value) (W : World) (H : Nat → Prop) (h : OrdBA m self rest W H) (hs : RowAt elemI W v peers) (hl : peers.length * 8 ≤ 140737488351232) (h0 : 0 ≤ draw) (h1 : draw < 18446744073709551616) :
    Calls Try.prog 52 #[.pointer (some ⟨m, 0, none⟩), v, .int .u64 draw] W fun e W' => ∃ u, e = .returned u ∧ SEnd (pureA (u = .int .i64 (nextOf self rest peers draw).1) (OrdBA m self (nextOf self rest peers draw).2)) H W W' :=
  (nextP_any m self rest peers draw v W H h.2 (by have := h.1; omega) (ints_rowAt hs) hl h0 h1).mono fun e W' ⟨he, F', k1, k2, k3⟩ => ⟨_, he, F', ⟨rfl, nextOf_small h.1, k1⟩, k2, k3⟩
end order
section clock
def ClkBA (m : Nat) (L : List Mo) : Asn := pureA (FineM L) (ClkOwn m L)
theorem clkOwn_owns (m : Nat) (L : List Mo) : Owns (ClkOwn m L) where
  lt W F h := by obtain ⟨K, h1, _⟩ := h; exact (clkQ_owns m K).lt W F h1
  kept W W' F h hs hk := by obtain ⟨K, h1, h2⟩ := h; exact ⟨K, (clkQ_owns m K).kept W W' F h1 hs hk, h2⟩
theorem clkBA_owns (m : Nat) (L : List Mo) : Owns (ClkBA m L) := pureA_owns (clkOwn_owns m L)
theorem clkB_of {m : Nat} {L : List Mo} {p : Prop} {H : Nat → Prop} {W W' : World} (hf : FineM L) (hp : p) (h : WEnd ClkOwn m L H W W') : SEnd (pureA p (ClkBA m L)) H W W' := by
  obtain ⟨F', h1, h2, h3⟩ := h
  exact ⟨F', ⟨hp, hf, h1⟩, h2, h3⟩
theorem clkB_set (m : Nat) (L : List Mo) (n t : Int) : Trip Try.prog 54 #[.pointer (some ⟨m, 0, none⟩), .int .i64 n, .int .i64 t] (ClkBA m L) fun u => pureA (u = .bool (okM ⟨n, t⟩)) (ClkBA m (aftSet L ⟨n, t⟩)) := by
  rintro W H ⟨hf, K, h1, h2, h3⟩
  have hl : K.length ≤ 1000 := by rw [h2.length_eq]; exact hf.len
  have ho : OnceM K := once_perm' h2.symm hf.once
  have hfa : FineM (aftSet L ⟨n, t⟩) := by
    unfold aftSet
    split
    · rename_i hx; exact hf.set hx
    · exact hf
  cases hm : okM ⟨n, t⟩ with
  | false =>
    refine (setK_bad m n t W hm).mono fun e w' ⟨he, x, hx⟩ => ⟨_, he, clkB_of hfa rfl ?_⟩
    subst hx
    unfold aftSet
    rw [hm]
    exact clkOwn_later ⟨K, h1, h2, h3⟩ x
  | true =>
    have hd : ∀ Y w', Y.Perm (⟨n, t⟩ :: cutM K n) → KPut m Y H W w' → WEnd ClkOwn m (aftSet L ⟨n, t⟩) H W w' := fun Y w' hY hp => by
      unfold aftSet
      rw [hm, if_pos rfl]
      exact clkOwn_end hp (hY.trans (set_perm h2 ⟨n, t⟩))
    rcases ix_of h2 ho n with ⟨hn, ha⟩ | ⟨k, u, hn, hk, ha, hu⟩
    · refine (setK_new m K n t W H h1 h3 hl hm ha).mono fun e w' ⟨he, hp⟩ => ⟨_, he, clkB_of hfa rfl (hd _ w' ?_ hp)⟩
      rw [cut_none (by rw [hasM_perm h2 ho]; exact hn)]
      exact List.perm_append_singleton _ _
    · refine (setK_again m K n t W H h1 h3 hl hm k u hk hu ha).mono fun e w' ⟨he, hp⟩ => ⟨_, he, clkB_of hfa rfl (hd _ w' ?_ hp)⟩
      subst hu
      exact set_at ho hk t
theorem clkB_cut (m : Nat) (L : List Mo) (n : Int) : Trip Try.prog 56 #[.pointer (some ⟨m, 0, none⟩), .int .i64 n] (ClkBA m L) fun u => pureA (u = .bool (hasM L n).isSome) (ClkBA m (cutM L n)) := by
  rintro W H ⟨hf, K, h1, h2, h3⟩
  have hl : K.length ≤ 1000 := by rw [h2.length_eq]; exact hf.len
  have ho : OnceM K := once_perm' h2.symm hf.once
  rcases ix_of h2 ho n with ⟨hn, ha⟩ | ⟨k, u, hn, hk, ha, hu⟩
  · refine (cutK_none m K n W H h1 hl ha).mono fun e w' ⟨he, x, hx⟩ => ⟨_, he, clkB_of (hf.cut n) (by rw [hn]; rfl) ?_⟩
    subst hx
    rw [cut_none hn]
    exact clkOwn_later ⟨K, h1, h2, h3⟩ x
  · refine (cutK_one m K n W H h1 h3 hl k u hk ha).mono fun e w' ⟨he, K', hp, hi, F', h4, h5, h6⟩ => ⟨_, he, clkB_of (hf.cut n) (by rw [hn]; rfl) ⟨F', ⟨K', h4, ?_, hi⟩, h5, h6⟩⟩
    exact List.Perm.cons_inv ((hp.trans h2).trans (cut_split hf.once hn))
theorem clkB_due (m : Nat) (L : List Mo) (now : Int) : Trip Try.prog 24 #[.pointer (some ⟨m, 0, none⟩), .int .i64 now] (ClkBA m L) fun u => star (RowO elemI u ((dueM L now).map Mo.n)) (ClkBA m (restM L now)) := by
  rintro W H ⟨hf, K, h1, h2, h3⟩
  refine (dueK_any m L now W H K h1 h2 h3 hf.sorted hf.len).mono ?_
  rintro e w' ⟨v, done, K', H', he, rfl, hd⟩
  have hl : (dueM L now).length = ((dueM L now).map Mo.n).length := by rw [List.length_map]
  have hr := row_rebase hd.row fun b hb => (hd.own b hb).1
  rw [hl] at hr
  exact ⟨v, he, row_beside (clkBA_owns m _) hr ⟨hf.rest now, K', hd.clock, hd.perm, hd.heap⟩ hd.fr hd.sub fun k hk => (hd.own k hk).2⟩
end clock
end
end Go.Proofs.Ytjbihgfdgaiecaa

/- RefDet: RefDet. -/
namespace Go.Proofs.Ytjbihgfdgaiecaa
section
open Go Go.RowKit
def bptr (b : Nat) : Value := .pointer (some ⟨b, 0, none⟩)
def detCells (s : DS) (pv pq po pc : Nat) : Array Value := #[.int .i64 s.self, .int .i64 s.inc, .int .i64 s.now, .int .i64 s.seq, .int .i64 s.asked, .bool s.over, .bool s.left, bptr pv, bptr pq, bptr po, bptr pc]
/-- What the numbers of a detector may be. -/
structure DsOk (s : DS) : Prop where
  self : 0 ≤ s.self ∧ s.self < 8
  inc : 0 ≤ s.inc ∧ s.inc ≤ 1000000
  now : 0 ≤ s.now ∧ s.now ≤ 100000
  seq : 0 ≤ s.seq ∧ s.seq ≤ 1000000
  asked : -1 ≤ s.asked ∧ s.asked < 8
/-- Its cells, as a walk reads them. -/
structure DetAt (W : World) (d : Nat) (s : DS) (pv pq po pc : Nat) : Prop where
  lt : d < W.heap.size
  c0 : W.cell? ⟨d, 0, none⟩ = some (.int .i64 s.self)
  c1 : W.cell? ⟨d, 1, none⟩ = some (.int .i64 s.inc)
  c2 : W.cell? ⟨d, 2, none⟩ = some (.int .i64 s.now)
  c3 : W.cell? ⟨d, 3, none⟩ = some (.int .i64 s.seq)
  c4 : W.cell? ⟨d, 4, none⟩ = some (.int .i64 s.asked)
  c5 : W.cell? ⟨d, 5, none⟩ = some (.bool s.over)
  c6 : W.cell? ⟨d, 6, none⟩ = some (.bool s.left)
  c7 : W.cell? ⟨d, 7, none⟩ = some (bptr pv)
  c8 : W.cell? ⟨d, 8, none⟩ = some (bptr pq)
  c9 : W.cell? ⟨d, 9, none⟩ = some (bptr po)
  c10 : W.cell? ⟨d, 10, none⟩ = some (bptr pc)
  f : ∀ j, W.frozen? ⟨d, j, none⟩ = false
section
variable {w W : World} {H0 : Nat → Prop} {B : Asn} {d pv pq po pc : Nat} {s : DS}
theorem star_last {A B C D E : Asn} {W : World} {H : Nat → Prop} (h : star A (star B (star C (star D E))) W H) : star E (star A (star B (star C D))) W H :=
  star_in4 (star_mono (fun _ h => h) (fun _ h => star_mono (fun _ h => h) (fun _ h => star_mono (fun _ h => h) (fun _ h => star_comm h) h) h) h) |> fun h => star_mono (fun _ h => h) (fun _ h => h) h
theorem star_unlast {A B C D E : Asn} {W : World} {H : Nat → Prop} (h : star E (star A (star B (star C D))) W H) : star A (star B (star C (star D E))) W H :=
  star_mono (fun _ h => h) (fun _ h => star_mono (fun _ h => h) (fun _ h => star_mono (fun _ h => h) (fun _ h => star_comm h) h) h) (star_out4 h)
end
end
end Go.Proofs.Ytjbihgfdgaiecaa

/- RefHear: RefHear. -/
namespace Go.Proofs.Ytjbihgfdgaiecaa
section
open Go Go.RowKit Go.BigFrame
theorem boxCl {W : World} {q : Nat} {n i h : Int} (e : W.heap[q]? = some (.cells #[.int .i64 n, .int .i64 i, .int .i64 h] 23)) : W.cell? ⟨q, 0, none⟩ = some (.int .i64 n) ∧ W.cell? ⟨q, 1, none⟩ = some (.int .i64 i) ∧ W.cell? ⟨q, 2, none⟩ = some (.int .i64 h) := by
  refine ⟨?_, ?_, ?_⟩ <;> simp [World.cell?, e]
theorem refN_range {self inc n i h : Int} (h0 : 0 ≤ self ∧ self < 8) (h1 : 0 ≤ inc ∧ inc ≤ 1000000) (he : refE self inc n i h = 0) : 0 ≤ refN self inc n i h ∧ refN self inc n i h ≤ 1000000 := by
  unfold refE at he
  unfold refN
  split
  · omega
  · rename_i hh
    rw [if_neg hh] at he
    split
    · exact h1
    · rename_i h2
      rw [if_neg h2] at he
      split
      · exact h1
      · simp only [Classical.not_not] at hh
        omega
theorem dsOk_hear {s : DS} (h : DsOk s) (c : Cl) : DsOk (hearD s c).1 := by
  unfold hearD
  split
  · split
    · exact ⟨h.self, h.inc, h.now, h.seq, h.asked⟩
    · rename_i he
      split
      · exact ⟨h.self, refN_range h.self h.inc (by simpa using he), h.now, h.seq, h.asked⟩
      · exact h
  · split
    · exact ⟨h.self, h.inc, h.now, h.seq, h.asked⟩
    · exact h
end
end Go.Proofs.Ytjbihgfdgaiecaa

/- SwimFacts: SwimFacts. -/
namespace Go.Proofs.Ytjbihgfdgaiecaa
section
open Go Go.RowKit
/-- Of nobody less is believed; who it is, and whether it has left, stays; its incarnation doesn't fall. -/
structure Up (s s' : DS) : Prop where
  self : s'.self = s.self
  left : s'.left = s.left
  now : s'.now = s.now
  inc : s.inc ≤ s'.inc
  V : ∀ k, kle (s.V k) (s'.V k)
theorem Up.refl (s : DS) : Up s s := ⟨rfl, rfl, rfl, Int.le_refl _, fun _ => kle_refl _⟩
theorem Up.trans {a b c : DS} (h : Up a b) (k : Up b c) : Up a c := ⟨k.self.trans h.self, k.left.trans h.left, k.now.trans h.now, Int.le_trans h.inc k.inc, fun j => kle_trans (h.V j) (k.V j)⟩
theorem hearV_up (V : Vw) (c : Cl) (k : Nat) : kle (V k) (hearV V c k) := ((hearV_lub V c k _).1 (kle_refl _)).1
theorem up_hearD (s : DS) (c : Cl) : Up s (hearD s c).1 := by
  unfold hearD DS.tell
  split
  · split
    · exact ⟨rfl, rfl, rfl, Int.le_refl _, fun _ => kle_refl _⟩
    · split
      · rename_i h; exact ⟨rfl, rfl, rfl, Int.le_of_lt h, fun k => hearV_up s.V _ k⟩
      · exact Up.refl s
  · split
    · exact ⟨rfl, rfl, rfl, Int.le_refl _, fun k => hearV_up s.V _ k⟩
    · exact Up.refl s
theorem up_sendD (s : DS) (kind dst seq for' about : Int) : Up s (sendD s kind dst seq for' about).1 := ⟨rfl, rfl, rfl, Int.le_refl _, fun _ => kle_refl _⟩
theorem up_fold {α : Type} (f : DS × List MM → α → DS × List MM) (hf : ∀ y p, Up y.1 (f y p).1) : ∀ (l : List α) (y : DS × List MM), Up y.1 (l.foldl f y).1
  | [], y => Up.refl _
  | a :: l, y => (hf y a).trans (up_fold f hf l (f y a))
theorem up_dueD (peers : List Int) (draw : Int) (x : DS × List MM) (id : Int) : Up x.1 (dueD peers draw x id).1 := by
  unfold dueD
  split
  · split
    · exact up_hearD _ _
    · exact Up.refl _
  · split
    · exact up_fold (fun y p => ((sendD y.1 3 p y.1.seq 0 y.1.asked).1, y.2 ++ [(sendD y.1 3 p y.1.seq 0 y.1.asked).2])) (fun y p => up_sendD y.1 3 p y.1.seq 0 y.1.asked) _ x
    · split
      · have h : ∀ t : DS, Up x.1 t → Up x.1 { t with asked := -1 } := fun t h => ⟨h.self, h.left, h.now, h.inc, h.V⟩
        refine h _ ?_
        split
        · exact up_hearD _ _
        · exact Up.refl _
      · exact Up.refl _
theorem up_askD (peers : List Int) (draw : Int) (x : DS × List MM) : Up x.1 (askD peers draw x).1 := by
  unfold askD
  split
  · exact Up.refl _
  · dsimp only
    split
    · exact ⟨rfl, rfl, rfl, Int.le_refl _, fun _ => kle_refl _⟩
    · exact ⟨rfl, rfl, rfl, Int.le_refl _, fun _ => kle_refl _⟩
/-- A tick: the time apart, that goes on by one. -/
theorem up_tickD (s : DS) (peers : List Int) (draw : Int) : Up { s with now := s.now + 1 } (tickD s peers draw).1 := by
  unfold tickD
  dsimp only
  split
  · exact Up.refl _
  · refine Up.trans ?_ (up_askD _ _ _)
    refine Up.trans ?_ (up_fold (fun x (m : Mo) => dueD peers draw x m.n) (fun y m => up_dueD peers draw y m.n) _ _)
    exact ⟨rfl, rfl, rfl, Int.le_refl _, fun _ => kle_refl _⟩
theorem up_heardL : ∀ (l : List Cl) (s : DS), Up s (l.foldl (fun s c => if nothingK c then s else (hearD s c).1) s)
  | [], s => Up.refl s
  | c :: l, s => by
    refine Up.trans ?_ (up_heardL l _)
    dsimp only
    split
    · exact Up.refl s
    · exact up_hearD s c
theorem up_heardM (s : DS) (l : List Cl) : Up s (heardM s l) := up_heardL _ s
theorem up_fromD (s : DS) (frm : Int) : Up s (fromD s frm) := by
  unfold fromD
  split
  · exact Up.refl s
  · exact up_hearD _ _
theorem up_handleD (s : DS) (m : MM) : Up s (handleD s m).1 := by
  have h1 : Up s (fromD (heardM s m.claims) m.frm) := (up_heardM s m.claims).trans (up_fromD _ _)
  obtain ⟨t, ht⟩ : ∃ t, fromD (heardM s m.claims) m.frm = t := ⟨_, rfl⟩
  rw [ht] at h1
  unfold handleD
  rw [ht]
  dsimp only
  split
  · exact Up.refl s
  · split
    · split
      · exact ⟨h1.self, h1.left, h1.now, h1.inc, h1.V⟩
      · exact h1
    · split
      · exact h1
      · split
        · exact h1.trans ⟨rfl, rfl, rfl, Int.le_refl _, fun _ => kle_refl _⟩
        · split
          · exact h1.trans ⟨rfl, rfl, rfl, Int.le_refl _, fun _ => kle_refl _⟩
          · split
            · exact h1.trans ⟨rfl, rfl, rfl, Int.le_refl _, fun _ => kle_refl _⟩
            · exact h1
theorem up_hearCall (s : DS) (c : Cl) : Up s (hearCall s c).1 := by
  unfold hearCall
  split
  · exact Up.refl s
  · exact up_hearD s c
/-- What it says of itself. -/
structure Mine (s : DS) : Prop where
  self : 0 ≤ s.self ∧ s.self < 8
  inc : 0 ≤ s.inc ∧ s.inc ≤ 1000000
  one : s.left = false → s.V s.self.toNat = ⟨s.self, s.inc, 1⟩
  gone : s.left = true → (s.V s.self.toNat).h = 4
theorem Mine.of {s s' : DS} (h : Mine s) (hs : s'.self = s.self) (hi : s'.inc = s.inc) (hl : s'.left = s.left) (hv : s'.V = s.V) : Mine s' :=
  ⟨by rw [hs]; exact h.self, by rw [hi]; exact h.inc, by rw [hs, hi, hl, hv]; exact h.one, by rw [hs, hl, hv]; exact h.gone⟩
theorem kle_gone {x y : Cl} (h : kle x y) (hx : x.h = 4) : y.h = 4 := by rw [kle_iff] at h; omega
theorem hearV_put {V : Vw} {c : Cl} (hm : mayK c = true) (hc : 0 < cmpK c (V c.n.toNat)) : hearV V c c.n.toNat = c := by
  have hb : heardB V c = true := by unfold heardB; rw [hm, Bool.true_and, decide_eq_true_eq]; exact hc
  have h1 : hearV V c = putV V c := by unfold hearV; exact if_pos hb
  rw [h1]
  exact if_pos rfl
theorem mine_up {s : DS} (h : Mine s) {N : Int} (h0 : s.inc < N) (h1 : N ≤ 1000000) : Mine { s with inc := N, V := hearV s.V ⟨s.self, N, 1⟩ } where
  self := h.self
  inc := ⟨by have := h.inc; show 0 ≤ N; omega, h1⟩
  one hl := by
    have h2 := h.one hl
    refine hearV_put (V := s.V) (c := ⟨s.self, N, 1⟩) ((mayK_iff _).2 ⟨h.self, .inr ⟨⟨?_, h1⟩, ?_, ?_⟩⟩) ?_
    · have := h.inc; show 0 ≤ N; omega
    · show (1 : Int) ≤ 1; omega
    · show (1 : Int) ≤ 4; omega
    · show 0 < cmpK ⟨s.self, N, 1⟩ (s.V s.self.toNat)
      rw [h2]
      unfold cmpK
      rw [cmpC_spec]
      dsimp only
      repeat' split
      all_goals omega
  gone hl := kle_gone (hearV_up s.V _ _) (h.gone hl)
theorem mine_hearD {s : DS} (h : Mine s) (c : Cl) : Mine (hearD s c).1 := by
  unfold hearD DS.tell
  split
  · split
    · exact h.of rfl rfl rfl rfl
    · rename_i he
      have he' : refE s.self s.inc c.n c.i c.h = 0 := Classical.byContradiction he
      have hr := refN_range h.self h.inc he'
      split
      · rename_i hlt; exact (mine_up h hlt hr.2).of rfl rfl rfl rfl
      · exact h
  · rename_i hn
    split
    · rename_i hb
      have hv : hearV s.V c s.self.toNat = s.V s.self.toNat := hearV_other s.V c _ fun ho => by
        have h1 := mayK_node ho.1
        have h2 := ho.2
        have h3 := h.self
        omega
      exact ⟨h.self, h.inc, fun hl => hv.trans (h.one hl), fun hl => (congrArg Cl.h hv).trans (h.gone hl)⟩
    · exact h
theorem mine_fold {α : Type} (f : DS × List MM → α → DS × List MM) (hf : ∀ y p, Mine y.1 → Mine (f y p).1) : ∀ (l : List α) (y : DS × List MM), Mine y.1 → Mine (l.foldl f y).1
  | [], _, h => h
  | a :: l, y, h => mine_fold f hf l (f y a) (hf y a h)
theorem mine_sendD {s : DS} (h : Mine s) (kind dst seq for' about : Int) : Mine (sendD s kind dst seq for' about).1 := h.of rfl rfl rfl rfl
theorem mine_dueD (peers : List Int) (draw : Int) (x : DS × List MM) (id : Int) (h : Mine x.1) : Mine (dueD peers draw x id).1 := by
  unfold dueD
  split
  · split
    · exact mine_hearD h _
    · exact h
  · split
    · exact mine_fold (fun y p => ((sendD y.1 3 p y.1.seq 0 y.1.asked).1, y.2 ++ [(sendD y.1 3 p y.1.seq 0 y.1.asked).2])) (fun y p h => mine_sendD h 3 p y.1.seq 0 y.1.asked) _ x h
    · split
      · have h' : ∀ t : DS, Mine t → Mine { t with asked := -1 } := fun t h => h.of rfl rfl rfl rfl
        refine h' _ ?_
        split
        · exact mine_hearD h _
        · exact h
      · exact h
theorem mine_askD (peers : List Int) (draw : Int) (x : DS × List MM) (h : Mine x.1) : Mine (askD peers draw x).1 := by
  unfold askD
  split
  · exact h
  · dsimp only
    split
    · exact h.of rfl rfl rfl rfl
    · exact h.of rfl rfl rfl rfl
theorem mine_tickD {s : DS} (h : Mine s) (peers : List Int) (draw : Int) : Mine (tickD s peers draw).1 := by
  unfold tickD
  dsimp only
  split
  · exact h.of rfl rfl rfl rfl
  · exact mine_askD _ _ _ (mine_fold (fun x (m : Mo) => dueD peers draw x m.n) (fun y m h => mine_dueD peers draw y m.n h) _ _ (h.of rfl rfl rfl rfl))
theorem mine_heardL : ∀ (l : List Cl) {s : DS}, Mine s → Mine (l.foldl (fun s c => if nothingK c then s else (hearD s c).1) s)
  | [], _, h => h
  | c :: l, s, h => by
    refine mine_heardL l (s := if nothingK c then s else (hearD s c).1) ?_
    split
    · exact h
    · exact mine_hearD h c
theorem mine_heardM {s : DS} (h : Mine s) (l : List Cl) : Mine (heardM s l) := mine_heardL _ h
theorem mine_fromD {s : DS} (h : Mine s) (frm : Int) : Mine (fromD s frm) := by
  unfold fromD
  split
  · exact h
  · exact mine_hearD h _
theorem mine_handleD {s : DS} (h : Mine s) (m : MM) : Mine (handleD s m).1 := by
  have h1 : Mine (fromD (heardM s m.claims) m.frm) := mine_fromD (mine_heardM h m.claims) _
  obtain ⟨t, ht⟩ : ∃ t, fromD (heardM s m.claims) m.frm = t := ⟨_, rfl⟩
  rw [ht] at h1
  unfold handleD
  rw [ht]
  dsimp only
  split
  · exact h
  · split
    · split
      · exact h1.of rfl rfl rfl rfl
      · exact h1
    · split
      · exact h1
      · split
        · exact h1.of rfl rfl rfl rfl
        · split
          · exact h1.of rfl rfl rfl rfl
          · split
            · exact h1.of rfl rfl rfl rfl
            · exact h1
theorem mine_hearCall {s : DS} (h : Mine s) (c : Cl) : Mine (hearCall s c).1 := by
  unfold hearCall
  split
  · exact h
  · exact mine_hearD h c
theorem mine_newD {self inc : Int} (h0 : 0 ≤ self ∧ self < 8) (h1 : 0 ≤ inc ∧ inc ≤ 1000000) : Mine (newD self inc) where
  self := h0
  inc := h1
  one _ := by
    refine hearV_put (V := view0) (c := ⟨self, inc, 1⟩) ((mayK_iff _).2 ⟨h0, .inr ⟨h1, ?_, ?_⟩⟩) ?_
    · show (1 : Int) ≤ 1; omega
    · show (1 : Int) ≤ 4; omega
    · show 0 < cmpK ⟨self, inc, 1⟩ ⟨(self.toNat : Nat), 0, 0⟩
      unfold cmpK
      rw [cmpC_spec]
      dsimp only
      repeat' split
      all_goals omega
  gone hl := by cases hl
theorem mine_leaveD {s : DS} (h : Mine s) : Mine (leaveD s).1 := by
  unfold leaveD
  dsimp only
  split
  · exact h
  · rename_i hl
    have hl' : s.left = false := by simpa using hl
    refine Mine.mk h.self h.inc (fun e => absurd (show true = false from e) (by decide)) fun _ => ?_
    show (hearV s.V ⟨s.self, s.inc, 4⟩ s.self.toNat).h = 4
    rw [hearV_put (V := s.V) (c := ⟨s.self, s.inc, 4⟩) ((mayK_iff _).2 ⟨h.self, .inr ⟨h.inc, by show (1 : Int) ≤ 4; omega, by show (4 : Int) ≤ 4; omega⟩⟩)]
    show 0 < cmpK ⟨s.self, s.inc, 4⟩ (s.V s.self.toNat)
    rw [h.one hl']
    unfold cmpK
    rw [cmpC_spec]
    dsimp only
    repeat' split
    all_goals omega
theorem leaveD_left (s : DS) : (leaveD s).1.left = true := by
  unfold leaveD
  dsimp only
  split
  · assumption
  · rfl
theorem leaveD_V (s : DS) (k : Nat) : kle (s.V k) ((leaveD s).1.V k) := by
  unfold leaveD
  dsimp only
  split
  · exact kle_refl _
  · exact hearV_up s.V _ k
theorem leaveD_rest (s : DS) : (leaveD s).1.self = s.self ∧ (leaveD s).1.inc = s.inc ∧ (leaveD s).1.now = s.now ∧ (leaveD s).2 = ⟨s.self, s.inc, 4⟩ := by
  unfold leaveD
  dsimp only
  split <;> exact ⟨rfl, rfl, rfl, rfl⟩
/-- Who hears that it is doubted. -/
theorem hear_doubt {s : DS} (h : Mine s) {i hh : Int} (h2 : hh = 2 ∨ hh = 3) (hm : mayK ⟨s.self, i, hh⟩ = true) (hi : s.inc ≤ i) : (hearCall s ⟨s.self, i, hh⟩).1.inc = i + 1 ∨ ((hearCall s ⟨s.self, i, hh⟩).1.over = true ∧ i = 1000000) := by
  have hn : nothingK ⟨s.self, i, hh⟩ = false := by simp only [nothingK, nothingB, decide_eq_false_iff_not]; omega
  have hk := (mayK_iff _).1 hm
  dsimp only at hk
  have hc : ¬ ¬ ((0 ≤ s.self ∧ s.self < 8) ∧ (0 ≤ s.inc ∧ s.inc ≤ 1000000) ∧ ((0 ≤ s.self ∧ s.self < 8) ∧ ((i = 0 ∧ hh = 0) ∨ ((0 ≤ i ∧ i ≤ 1000000) ∧ 1 ≤ hh ∧ hh ≤ 4)))) := fun x => x ⟨h.self, h.inc, hk⟩
  have hd : ¬ (s.self ≠ s.self ∨ ¬ (hh = 2 ∨ hh = 3) ∨ i < s.inc) := by omega
  have he : refE s.self s.inc s.self i hh = if 1000000 ≤ i then 6 else 0 := by unfold refE; rw [if_neg hc, if_neg hd]
  have hr : refN s.self s.inc s.self i hh = if 1000000 ≤ i then s.inc else i + 1 := by unfold refN; rw [if_neg hc, if_neg hd]
  unfold hearCall
  rw [if_neg (by rw [hm, hn]; simp)]
  unfold hearD
  dsimp only
  rw [if_pos rfl, he, hr]
  by_cases hb : 1000000 ≤ i
  · rw [if_pos hb, if_pos (by decide)]
    exact .inr ⟨rfl, by omega⟩
  · rw [if_neg hb, if_neg hb, if_neg (by decide), if_pos (by omega)]
    exact .inl rfl
/-- Who has left sends nothing. -/
theorem handleD_left {s : DS} (m : MM) (hl : s.left = true) : (handleD s m).2 = [] := by
  have h1 : (fromD (heardM s m.claims) m.frm).left = true := ((up_heardM s m.claims).trans (up_fromD _ _)).left.trans hl
  obtain ⟨t, ht⟩ : ∃ t, fromD (heardM s m.claims) m.frm = t := ⟨_, rfl⟩
  rw [ht] at h1
  unfold handleD
  rw [ht]
  dsimp only
  rw [h1]
  split
  · rfl
  · split
    · rfl
    · rfl
theorem tickD_left {s : DS} (peers : List Int) (draw : Int) (hl : s.left = true) : tickD s peers draw = ({ s with now := s.now + 1 }, []) := by
  unfold tickD
  dsimp only
  rw [if_pos hl]
/-- What an outer claim is, by a place. -/
theorem ofV_node {V : Vw} {n : Int} (h : 0 ≤ n ∧ n < 8) : ofV V n = ⟨n, (V n.toNat).i, (V n.toNat).h⟩ := by unfold ofV; rw [if_pos h]
theorem own_of {s : DS} (h : Mine s) (hl : s.left = false) : ofV s.V s.self = ⟨s.self, s.inc, 1⟩ := by rw [ofV_node h.self, h.one hl]
theorem gone_of {s : DS} (h : Mine s) (hl : s.left = true) : (ofV s.V s.self).h = 4 := by rw [ofV_node h.self]; exact h.gone hl
/-- The claims of a message, one after another: who holds what, and how many counted. -/
def heardStep (x : DS × Nat) (c : Cl) : DS × Nat := if mayK c = true ∧ x.2 < 4 then (if nothingK c then x.1 else (hearD x.1 c).1, x.2 + 1) else x
theorem heard_steps : ∀ (l : List Cl) (s : DS) (n : Nat), n ≤ 4 → (l.foldl heardStep (s, n)).1 = ((l.filter mayK).take (4 - n)).foldl (fun s c => if nothingK c then s else (hearD s c).1) s
  | [], s, n, _ => by simp
  | c :: l, s, n, hn => by
    rw [List.foldl_cons, List.filter_cons]
    unfold heardStep
    cases hm : mayK c with
    | false =>
      rw [if_neg (fun h => by cases h.1)]
      simp only [Bool.false_eq_true, if_false]
      exact heard_steps l s n hn
    | true =>
      by_cases h4 : n < 4
      · rw [if_pos ⟨rfl, h4⟩]
        simp only [if_true]
        rw [show 4 - n = (4 - (n + 1)) + 1 from by omega, List.take_succ_cons, List.foldl_cons]
        exact heard_steps l _ (n + 1) (by omega)
      · rw [if_neg (fun h => h4 h.2)]
        have e : 4 - n = 0 := by omega
        have h5 := heard_steps l s n hn
        rw [e, List.take_zero] at h5 ⊢
        exact h5
theorem heardM_steps (s : DS) (l : List Cl) : (l.foldl heardStep (s, 0)).1 = heardM s l := heard_steps l s 0 (by omega)
theorem heardStep_le : ∀ (l : List Cl) (x : DS × Nat), x.2 ≤ 4 → (l.foldl heardStep x).2 ≤ 4
  | [], _, h => h
  | c :: l, x, h => heardStep_le l _ (by unfold heardStep; split <;> first | exact h | (rename_i h2; exact h2.2))
end
end Go.Proofs.Ytjbihgfdgaiecaa

/- Msgs: Msgs. -/
namespace Go.Proofs.Ytjbihgfdgaiecaa
section
open Go Go.RowKit
/-- A message's cells: its numbers, and the slice of its claims. -/
structure RawM where
  kind : Int
  frm : Int
  dst : Int
  seq : Int
  for' : Int
  about : Int
  p : Option Addr
  n : Nat
  cap : Nat
def i0 : Value := .int .i64 0
def s0 : Value := .slice none 0 0
/-- Between the numbers and the claims: key, bag, ring, all of them nothing. -/
def msgMid : List Value := [i0, i0, .string ByteArray.empty, i0, i0, i0, i0, i0, i0, i0, i0, s0, i0, i0, i0, i0, i0, i0, i0, i0, i0, i0, s0, i0, i0, i0, i0, i0, i0, i0, i0, i0, i0, i0, i0, i0, i0, i0, i0, i0, i0, i0, i0, i0, i0, i0, i0, i0, i0, i0, i0, i0, i0, i0, i0]
def RawM.enc (r : RawM) : List Value := [.int .i64 r.kind, .int .i64 r.frm, .int .i64 r.dst, .int .i64 r.seq, .int .i64 r.for', .int .i64 r.about] ++ msgMid ++ [.slice r.p r.n r.cap]
def RawM.val (r : RawM) : Value := .agg r.enc.toArray
theorem msgMid_len : msgMid.length = 55 := rfl
theorem msgMid_one : ∀ u ∈ msgMid, u.oneCell' = true := by
  intro u hu
  simp only [msgMid, List.mem_cons, List.not_mem_nil, or_false] at hu
  rcases hu with rfl | rfl | rfl | rfl | rfl | rfl | rfl | rfl | rfl | rfl | rfl | rfl | rfl | rfl | rfl | rfl | rfl | rfl | rfl | rfl | rfl | rfl | rfl | rfl | rfl | rfl | rfl | rfl | rfl | rfl | rfl | rfl | rfl | rfl | rfl | rfl | rfl | rfl | rfl | rfl | rfl | rfl | rfl | rfl | rfl | rfl | rfl | rfl | rfl | rfl | rfl | rfl | rfl | rfl | rfl <;> rfl
def zeroM : RawM := ⟨0, 0, 0, 0, 0, 0, none, 0, 0⟩
def elemM : Elem Try.prog RawM where
  enc := RawM.enc
  k := 62
  pos := by decide
  len r := by simp [RawM.enc, msgMid_len]
  one r u hu := by
    simp only [RawM.enc, List.mem_append, List.mem_cons, List.not_mem_nil, or_false] at hu
    rcases hu with ((rfl | rfl | rfl | rfl | rfl | rfl) | hu) | rfl
    · rfl
    · rfl
    · rfl
    · rfl
    · rfl
    · rfl
    · exact msgMid_one u hu
    · rfl
  t := 39
  sl := 44
  under := Try.underlying44
  z := zeroM.val
  bytes := 552
  bpos := by decide
  info := by kernel_rfl
  zs := by kernel_rfl
end
end Go.Proofs.Ytjbihgfdgaiecaa

/- StarRow: StarRow. -/
namespace Go.Proofs.Ytjbihgfdgaiecaa
section
open Go Go.RowKit
theorem fill_from : ∀ (l : List Value) (k : Nat) (arr : Array Value), k + l.length = arr.size → (l.zipIdx k).foldl (fun cs x => cs.setIfInBounds x.snd x.fst) arr = (arr.toList.take k ++ l).toArray
  | [], k, arr, h => by
    simp only [List.zipIdx_nil, List.foldl_nil, List.append_nil]
    apply Array.toList_inj.1
    simp only [List.length_nil, Nat.add_zero] at h
    rw [List.take_of_length_le (by simp; omega)]
  | x :: l, k, arr, h => by
    rw [List.length_cons] at h
    rw [List.zipIdx_cons, List.foldl_cons, fill_from l (k + 1) _ (by simp; omega)]
    apply Array.toList_inj.1
    dsimp only
    rw [Array.toList_setIfInBounds]
    have hk : k < arr.toList.length := by simp; omega
    rw [List.take_add_one, List.getElem?_set_self hk, List.take_set_of_le (Nat.le_refl _)]
    simp
theorem fill_all (l : List Value) (arr : Array Value) (h : l.length = arr.size) : l.zipIdx.foldl (fun cs x => cs.setIfInBounds x.snd x.fst) arr = l.toArray := by
  rw [fill_from l 0 arr (by omega)]
  rfl
section
variable {α : Type} {E : Elem Try.prog α} {Q : Asn} {H0 : Nat → Prop} {w W : World} {v v2 : Value} {xs l2 : List α}
theorem runS_append (ty : TypeId) (hm : W.ownsRow 0 E.t E.k v xs.length (E.cells xs)) (hs : SrcE E W v2 l2) (hb : (xs.length + l2.length) * E.bytes ≤ 140737488355328) :
    ∃ v' w', (Builtin.append_ #[E.sl, E.sl] ty #[v, v2]).run Try.prog W = .ok v' w' ∧ w'.ownsRow 0 E.t E.k v' (xs ++ l2).length (E.cells (xs ++ l2)) ∧ W.grownBy w' v.ownBlock ∧ ∀ g, v'.ownBlock = some g → v.ownBlock = some g ∨ W.heap.size ≤ g := by
  obtain ⟨i0, hi, hz0, hz1, hz2⟩ := info_parts E.info
  obtain ⟨hl, p, cap, rfl, hlc, hpc⟩ := hs
  cases p with
  | none =>
    obtain rfl := hpc rfl
    obtain rfl : l2 = [] := List.eq_nil_of_length_eq_zero (by omega)
    refine ⟨v, W, run_append_owned_none (P := Try.prog) (w := W) 0 E.sl ty E.t i0 E.k E.under hi v xs.length (E.cells xs) hm, ?_, ⟨rfl, rfl, rfl, Nat.le_refl _, fun _ _ _ => rfl⟩, fun g h => .inl h⟩
    rw [List.append_nil]
    exact hm
  | some a =>
    have hnews : ∀ j u, (E.cells l2)[j]? = some u → W.cell? (a.add j) = some u := by
      intro j u hu
      rcases hl with ⟨rfl, _⟩ | ⟨b, o, cap', he, hlt, hc⟩
      · simp [Elem.cells] at hu
      · simp only [Value.slice.injEq, Option.some.injEq] at he
        obtain ⟨rfl, _, _⟩ := he
        rw [addr_off]
        obtain ⟨i, j', x, rfl, hx, hu'⟩ := E.cells_inv l2 j u hu
        rw [← Nat.add_assoc]
        exact hc i x hx j' u hu'
    have hbp := E.bpos
    have hle : xs.length + l2.length ≤ 140737488355328 := Nat.le_trans (Nat.le_mul_of_pos_right _ hbp) hb
    obtain ⟨v', w', hr, h2, h3, h4⟩ := run_append_where (P := Try.prog) W E.sl ty E.t i0 E.z E.k E.bytes E.under hi hz0 hz1 hz2 E.zs E.pos v xs.length (E.cells xs) hm a l2.length cap (E.cells l2) (E.cells_len l2) hnews (E.cells_one l2) (by unfold maxLen; omega) hb
    refine ⟨v', w', hr, ?_, h3, h4⟩
    rw [List.length_append, E.cells_append]
    exact h2
/-- To append to a row of one's own. -/
theorem SEnd.append (ty : TypeId) (hQ : Owns Q) (h : SEnd (star (RowO E v xs) Q) H0 w W) (hs : SrcE E W v2 l2) (hb : (xs.length + l2.length) * E.bytes ≤ 140737488355328) :
    ∃ v' w', (Builtin.append_ #[E.sl, E.sl] ty #[v, v2]).run Try.prog W = .ok v' w' ∧ SEnd (star (RowO E v' (xs ++ l2)) Q) H0 w w' ∧ ∀ S : Nat → Prop, (∀ H2, Q W H2 → ∀ k, S k → H2 k) → GK S W w' := by
  obtain ⟨H, hst, hf, hg⟩ := h
  obtain ⟨H1, h1, _, h3⟩ := star_frame hQ hst
  obtain ⟨v', w', hr, h2, h4, h5⟩ := runS_append ty h1.1 hs hb
  have hstep : SEnd (RowO E v' (xs ++ l2)) H1 W w' := by
    refine ⟨fun k => v'.ownBlock = some k, ⟨h2, fun _ => Iff.rfl⟩, Fr.of_grownBy h4 fun j hj => .inl ((h1.2 j).2 hj), fun k hk => ?_⟩
    rcases h5 k hk with h | h
    · exact .inl ((h1.2 k).2 h)
    · exact .inr h
  refine ⟨v', w', hr, ?_, (h3 _ _ hstep).2⟩
  exact SEnd.trans (P := fun W1 H' => W1 = W ∧ H' = H) ⟨H, ⟨rfl, rfl⟩, hf, hg⟩ fun H' ⟨_, e⟩ => by subst e; exact (h3 _ _ hstep).1
theorem wpListS_append {ops : Array Oper} {rest : List Oper} {o : Oper} {a : Act} {K : Exit → Act → World → Prop} (hgd : o.guard = none) (s x : Operand)
    (ho : o.op = .call { callee := .builtin .append, args := #[s, x], argTypes := #[E.sl, E.sl] }) (hsv : a.eval s = v) (hxv : a.eval x = v2)
    (hQ : Owns Q) (h : SEnd (star (RowO E v xs) Q) H0 w W) (hs : SrcE E W v2 l2) (hb : (xs.length + l2.length) * E.bytes ≤ 140737488355328)
    (hK : ∀ v' w', SEnd (star (RowO E v' (xs ++ l2)) Q) H0 w w' → (∀ S : Nat → Prop, (∀ H2, Q W H2 → ∀ k, S k → H2 k) → GK S W w') → wpList Try.prog ops K rest (a.put o.dst v') w') : wpList Try.prog ops K (o :: rest) a W :=
  wpList_plain hgd fun _ hk => by
    obtain ⟨v', w', hr, h2, h3⟩ := SEnd.append o.type hQ h hs hb
    unfold Oper.wp execOp
    simp only [ho, resolve, invoke, builtin, Sem.run_bind, Sem.run_pure, Result.andThen_ok, List.map_toArray, List.map_cons, List.map_nil, hsv, hxv, hr]
    exact hk _ _ (hK v' w' h2 h3)
/-- append as the one operation of a drawn region that may come up. -/
theorem wpT_appendS {md : Region.Mode} {ops : Array Oper} {s : List Nat} {S : Nat → Prop} {K : Act → World → Prop} {fuel i : Nat} {listed : Array Bool} {a : Act} (hr : Region.ready md ops listed = [i]) {o : Oper} (hi : ops[i]? = some o) (hw : Region.wanted o (yielded ops a.tmps) = true)
    {x y : Operand} (ho : o.op = .call { callee := .builtin .append, args := #[x, y], argTypes := #[E.sl, E.sl] }) (hx : a.eval x = v) (hy : a.eval y = v2) (hQ : Owns Q) (h : SEnd (star (RowO E v xs) Q) H0 w W) (hs : SrcE E W v2 l2) (hb : (xs.length + l2.length) * E.bytes ≤ 140737488355328) (hS : ∀ H2, Q W H2 → ∀ k, S k → H2 k) {d : Option Tmp} (hd : o.dst = d)
    (hK : ∀ v' w', SEnd (star (RowO E v' (xs ++ l2)) Q) H0 w w' → GK S W w' → wpT Try.prog md ops (GS s S) K fuel (listed.setIfInBounds i true) (a.put d v') w') : wpT Try.prog md ops (GS s S) K (fuel + 1) listed a W := by
  obtain ⟨v', w', hrun, h2, h3⟩ := SEnd.append o.type hQ h hs hb
  refine wpT_value hr hi hw (R := fun v' w' => SEnd (star (RowO E v' (xs ++ l2)) Q) H0 w w' ∧ GK S W w') ⟨v', w', ?_, h2, h3 S hS⟩ (fun v' w' hh => .inr hh.2) hd fun v' w' hh => hK v' w' hh.1 hh.2
  unfold execOp
  simp only [ho, resolve, invoke, builtin, Sem.run_bind, Sem.run_pure, Result.andThen_ok, List.map_toArray, List.map_cons, List.map_nil, hx, hy, hrun]
theorem SEnd.form (h : SEnd (star (RowO E v xs) Q) H0 w W) : ∃ p cap, v = .slice p xs.length cap := by
  obtain ⟨H, ⟨H1, H2, h1, _⟩, _⟩ := h
  obtain ⟨p, cap, hv, _⟩ := ownsRow_formE h1.1
  exact ⟨p, cap, hv⟩
theorem SEnd.src (h : SEnd (star (RowO E v xs) Q) H0 w W) : SrcE E W v xs := by
  obtain ⟨H, ⟨H1, H2, h1, _⟩, _⟩ := h
  exact h1.src
theorem rowO_nil : RowO E (.slice none 0 0) [] W fun _ => False := ⟨World.ownsRow_nil _ _ _ _, fun k => by simp [Value.ownBlock]⟩
/-- A new row of one element: its block. -/
theorem rowO_box {b : Nat} {x : α} {cs : Array Value} {H : Nat → Prop} (hc : cs.toList = E.enc x) (h : BoxA b (.cells cs E.t (0, 0)) W H) : RowO E (.slice (some ⟨b, 0, none⟩) 1 1) [x] W H := by
  have hl : cs.toList.length = E.k := by rw [hc, E.len]
  have hcells : E.cells [x] = E.enc x := by show E.enc x ++ [] = _; rw [List.append_nil]
  refine ⟨⟨by rw [E.cells_len], .inr ⟨b, 1, cs, rfl, Nat.zero_le _, h.1, Nat.le_refl _, by unfold maxLen; omega, by rw [Nat.one_mul, ← hl]; simp, ?_⟩⟩, fun k => ?_⟩
  · rw [hcells, ← hc]
    exact List.take_of_length_le (by rw [hl]; simp)
  · rw [h.2 k]
    simp [Value.ownBlock, eq_comm]
theorem SEnd.row1 {b : Nat} {x : α} {cs : Array Value} (hc : cs.toList = E.enc x) (h : SEnd (star (BoxA b (.cells cs E.t (0, 0))) Q) H0 w W) : SEnd (star (RowO E (.slice (some ⟨b, 0, none⟩) 1 1) [x]) Q) H0 w W := h.mono fun _ => star_mono (fun _ => rowO_box hc) fun _ h => h
end
end
end Go.Proofs.Ytjbihgfdgaiecaa

/- CallBox: CallBox. -/
namespace Go.Proofs.Ytjbihgfdgaiecaa
section
open Go Go.RowKit
theorem uponG_value {P : Program} {G : World → World → Prop} {o : Oper} {a : Act} {w w' : World} {K : Act → World → Prop} {v : Value} {r : Result Next} (hr : r = .ok (.value v) w') (hG : G w w') (hK : K (a.put o.dst v) w') : uponG P G o a w K r := by
  subst hr
  exact ⟨hG, hK⟩
theorem uponG_call {P : Program} {G : World → World → Prop} {o : Oper} {a : Act} {w : World} {K : Act → World → Prop} {f : Nat} {args : Array Value} {r : Result Next} (hr : r = .ok (.enter f args) w) (hc : Calls P f args w fun e w' => ∃ v, e = .returned v ∧ G w w' ∧ K (a.put o.dst v) w') : uponG P G o a w K r := by
  subst hr
  exact hc
theorem wpT_callAlloc {P : Program} {md : Region.Mode} {ops : Array Oper} {s : List Nat} {S : Nat → Prop} {K : Act → World → Prop} {W : World} {fuel i j : Nat} {listed : Array Bool} {a : Act} (hr : Region.ready md ops listed = [i, j]) (hij : i ≠ j)
    (hri : Region.ready md ops (listed.setIfInBounds i true) = [j]) (hrj : Region.ready md ops (listed.setIfInBounds j true) = [i]) {oi oj : Oper} (hi : ops[i]? = some oi) (hj : ops[j]? = some oj) (hgi : oi.guard = none) (hgj : oj.guard = none)
    {f : Nat} {xs : Array Operand} {ts : Array TypeId} (ho : oi.op = .call { callee := .value (.func f), args := xs, argTypes := ts }) (eg : ∀ args w, (callFunc f args).run P w = .ok (.enter f args) w) {args : Array Value} (hargs : xs.map a.eval = args) {x y : Nat} (hx : oi.dst = some x) (hy : oj.dst = some y) (hxy : x ≠ y) (hargs' : ∀ u, xs.map (a.put (some y) u).eval = args)
    {v : Value} (hc : ∀ W', Below W.heap.size W W' → Gives P f args W' v) {o : Obj} (hal : ∀ (a' : Act) W', (execOp a'.eval oj).run P W' = .ok (.value (.pointer (some ⟨W'.heap.size, 0, none⟩))) (W'.alloc o)) (hS : ∀ k, S k → k < W.heap.size)
    (hK : ∀ b W', Below W.heap.size W W' → W.heap.size ≤ b → W'.heap[b]? = some o → wpT P md ops (GS s S) K fuel ((listed.setIfInBounds i true).setIfInBounds j true) ((a.put (some x) v).put (some y) (.pointer (some ⟨b, 0, none⟩))) W') : wpT P md ops (GS s S) K (fuel + 1 + 1) listed a W := by
  have want : ∀ {q : Oper} {z : Nat → Option Bool}, q.guard = none → Region.wanted q z = true := fun h => by simp [Region.wanted, h]
  have enter : ∀ {a' : Act} W', xs.map a'.eval = args → (execOp a'.eval oi).run P W' = .ok (.enter f args) W' := fun W' h => by
    simp [execOp, ho, resolve, invoke, Act.eval, Deferred.ofValue, eg, h, go_sem]
    try exact ⟨_, h⟩
  refine wpT_two hr ?_ ?_
  · unfold opT opG
    simp only [hi, want hgi, if_true]
    refine uponG_call (enter W hargs) ?_
    refine (hc W (ext_refl W)).mono fun e W1 ⟨he, z, hz⟩ => ⟨v, he, ?_, ?_⟩
    · subst hz; exact .inr (GK.of_later z hS)
    · subst hz
      rw [hx]
      refine wpT_just hri ?_
      unfold opT opG
      simp only [hj, want hgj, if_true]
      refine uponG_value (hal _ z.w) (.inr (GK.of_below (ext_alloc (ext_refl z.w) o) fun k hk => Nat.lt_of_lt_of_le (hS k hk) z.below.size)) ?_
      rw [hy]
      exact hK z.w.heap.size _ (ext_alloc z.below o) z.below.size (heap_alloc_new _ _)
  · unfold opT opG
    simp only [hj, want hgj, if_true]
    refine uponG_value (hal _ W) (.inr (GK.of_below (ext_alloc (ext_refl W) o) hS)) ?_
    rw [hy]
    refine wpT_just hrj ?_
    unfold opT opG
    simp only [hi, want hgi, if_true]
    refine uponG_call (enter _ (hargs' _)) ?_
    refine (hc _ (ext_alloc (ext_refl W) o)).mono fun e W1 ⟨he, z, hz⟩ => ⟨v, he, ?_, ?_⟩
    · subst hz; exact .inr (GK.of_later z fun k hk => Nat.lt_of_lt_of_le (hS k hk) (by simp))
    · subst hz
      rw [hx, Array.setIfInBounds_comm _ _ (Ne.symm hij), Act.put_comm a _ _ (fun d h => by simp only [Option.some.injEq] at h; subst h; simpa using hxy)]
      refine hK W.heap.size _ (ext_later (ext_alloc (ext_refl W) o) z) (Nat.le_refl _) ?_
      exact (z.below.block _ (by simp)).trans (heap_alloc_new W o)
theorem wpT_callAlloc2 {P : Program} {md : Region.Mode} {ops : Array Oper} {s : List Nat} {S : Nat → Prop} {K : Act → World → Prop} {W : World} {fuel i j : Nat} {listed : Array Bool} {a : Act} (hr : Region.ready md ops listed = [i, j]) (hij : i ≠ j)
    (hri : Region.ready md ops (listed.setIfInBounds i true) = [j]) (hrj : Region.ready md ops (listed.setIfInBounds j true) = [i]) {oi oj : Oper} (hi : ops[i]? = some oi) (hj : ops[j]? = some oj) (hgi : oi.guard = none) (hgj : oj.guard = none)
    {f : Nat} {x0 x1 : Operand} {ts : Array TypeId} (ho : oi.op = .call { callee := .value (.func f), args := #[x0, x1], argTypes := ts }) (eg : ∀ args w, (callFunc f args).run P w = .ok (.enter f args) w) {v0 v1 : Value} (h0 : a.eval x0 = v0) (h1 : a.eval x1 = v1) {x y : Nat} (hx : oi.dst = some x) (hy : oj.dst = some y) (hxy : x ≠ y) (h0' : ∀ u, (a.put (some y) u).eval x0 = v0) (h1' : ∀ u, (a.put (some y) u).eval x1 = v1)
    {v : Value} (hc : ∀ W', Below W.heap.size W W' → Gives P f #[v0, v1] W' v) {o : Obj} (hal : ∀ (a' : Act) W', (execOp a'.eval oj).run P W' = .ok (.value (.pointer (some ⟨W'.heap.size, 0, none⟩))) (W'.alloc o)) (hS : ∀ k, S k → k < W.heap.size)
    (hK : ∀ b W', Below W.heap.size W W' → W.heap.size ≤ b → W'.heap[b]? = some o → wpT P md ops (GS s S) K fuel ((listed.setIfInBounds i true).setIfInBounds j true) ((a.put (some x) v).put (some y) (.pointer (some ⟨b, 0, none⟩))) W') : wpT P md ops (GS s S) K (fuel + 1 + 1) listed a W :=
  wpT_callAlloc hr hij hri hrj hi hj hgi hgj ho eg (by simp [h0, h1]) hx hy hxy (fun u => by simp [h0', h1']) hc hal hS hK
end
end Go.Proofs.Ytjbihgfdgaiecaa

/- MsgBuild: MsgBuild. -/
namespace Go.Proofs.Ytjbihgfdgaiecaa
section
open Go Go.RowKit
set_option maxRecDepth 100000 in
theorem run_build_msg (r : RawM) (W : World) : (Instr.buildSlice 44 1 #[(0, .agg r.enc.toArray)]).run Try.prog W = .ok (.slice (some ⟨W.heap.size, 0, none⟩) 1 1) (W.alloc (.cells r.enc.toArray 39)) := by
  simp [Instr.buildSlice, go_sem]
  rw [fill_all]
  all_goals rfl
theorem wpList_build_msg {ops : Array Oper} {rest : List Oper} {o : Oper} {a : Act} {K : Exit → Act → World → Prop} {W : World} {r : RawM} (hgd : o.guard = none) (x : Operand) (ho : o.op = .buildSlice 44 1 #[(0, x)]) (hx : a.eval x = .agg r.enc.toArray)
    (h : wpList Try.prog ops K rest (a.put o.dst (.slice (some ⟨W.heap.size, 0, none⟩) 1 1)) (W.alloc (.cells r.enc.toArray 39))) : wpList Try.prog ops K (o :: rest) a W :=
  wpList_plain hgd fun _ hk => by
    unfold Oper.wp execOp
    simp only [ho, List.map_toArray, List.map_cons, List.map_nil, hx, Sem.run_bind, Sem.run_pure, Result.andThen_ok, run_build_msg]
    exact hk _ _ h
end
end Go.Proofs.Ytjbihgfdgaiecaa

/- RefSend: RefSend. -/
namespace Go.Proofs.Ytjbihgfdgaiecaa
section
open Go Go.RowKit Go.BigFrame
@[simp, go_sem] theorem RawM.val_cells (r : RawM) : r.val.cells = r.enc.toArray := rfl
theorem load_msg {W : World} {q : Nat} {r : RawM} (h : W.heap[q]? = some (.cells r.enc.toArray 39 (0, 0))) : (loadVar 39 ⟨q, 0, none⟩).run Try.prog W = .ok (.agg r.enc.toArray) W :=
  run_loadVar_row W q _ _ _ _ _ h Try.underlying39 rfl (by kernel_rfl)
theorem wpList_load_msg {ops : Array Oper} {rest : List Oper} {o : Oper} {a : Act} {K : Exit → Act → World → Prop} {W : World} {q : Nat} {r : RawM} (hgd : o.guard = none) (x : Operand) (ho : o.op = .load 39 x) (hx : a.eval x = .pointer (some ⟨q, 0, none⟩)) (hm : W.heap[q]? = some (.cells r.enc.toArray 39 (0, 0)))
    (h : wpList Try.prog ops K rest (a.put o.dst (.agg r.enc.toArray)) W) : wpList Try.prog ops K (o :: rest) a W :=
  wpList_plain hgd fun _ hk => by
    unfold Oper.wp execOp
    simp only [ho, hx, Instr.loadAt, Instr.sureAddr, Sem.run_bind, Sem.run_pure, Result.andThen_ok, load_msg hm]
    exact hk _ _ h
/-- A message's box, as a walk reads it. -/
structure MsgAt (W : World) (q : Nat) (r : RawM) : Prop where
  lt : q < W.heap.size
  c1 : W.cell? ⟨q, 1, none⟩ = some (.int .i64 r.frm)
  c2 : W.cell? ⟨q, 2, none⟩ = some (.int .i64 r.dst)
  c61 : W.cell? ⟨q, 61, none⟩ = some (.slice r.p r.n r.cap)
  f : ∀ j, W.frozen? ⟨q, j, none⟩ = false
  all : (loadVar 39 ⟨q, 0, none⟩).run Try.prog W = .ok (.agg r.enc.toArray) W
theorem msgAt {W : World} {q : Nat} {r : RawM} (h : W.heap[q]? = some (.cells r.enc.toArray 39 (0, 0))) : MsgAt W q r := by
  have hc : ∀ j, W.cell? ⟨q, j, none⟩ = r.enc[j]? := fun j => by simp [World.cell?, h]
  exact ⟨(Array.getElem?_eq_some_iff.1 h).1, hc 1, hc 2, hc 61, fun j => by simp [World.frozen?, h], load_msg h⟩
theorem msg_frm (r : RawM) (x : Int) : r.enc.toArray.setIfInBounds 1 (.int .i64 x) = { r with frm := x }.enc.toArray := rfl
theorem msg_cl (r : RawM) (p : Option Addr) (n cap : Nat) : r.enc.toArray.setIfInBounds 61 (.slice p n cap) = { r with p := p, n := n, cap := cap }.enc.toArray := rfl
abbrev msgO (r : RawM) : Obj := .cells r.enc.toArray 39 (0, 0)
/-- A claim's box is filled. -/
theorem SEnd.fill {Q : Asn} {H0 : Nat → Prop} {w W : World} {b : Nat} {n i h : Int} (hQ : Owns Q) (hs : SEnd (star (BoxA b (.cells #[.int .i64 0, .int .i64 0, .int .i64 0] 23 (0, 0))) Q) H0 w W) : SEnd (star (BoxA b (.cells #[.int .i64 n, .int .i64 i, .int .i64 h] 23 (0, 0))) Q) H0 w (((W.setCell ⟨b, 0, none⟩ (.int .i64 n)).setCell ⟨b, 1, none⟩ (.int .i64 i)).setCell ⟨b, 2, none⟩ (.int .i64 h)) :=
  SEnd.store (off := 2) hQ (SEnd.store (off := 1) hQ (SEnd.store (off := 0) hQ hs (.int .i64 n)) (.int .i64 i)) (.int .i64 h)
abbrev clO (n i h : Int) : Obj := .cells #[.int .i64 n, .int .i64 i, .int .i64 h] 23 (0, 0)
end
end Go.Proofs.Ytjbihgfdgaiecaa

/- RefLeave: RefLeave. -/
namespace Go.Proofs.Ytjbihgfdgaiecaa
section
open Go Go.RowKit Go.BigFrame
end
end Go.Proofs.Ytjbihgfdgaiecaa

/- RefNew: RefNew. -/
namespace Go.Proofs.Ytjbihgfdgaiecaa
section
open Go Go.RowKit
theorem order_new {V Q O C : Asn} {W : World} {H : Nat → Prop} (h : star C (star O (star Q (star V emp))) W H) : star V (star Q (star O C)) W H := by
  have h1 := star_mono (P' := C) (fun _ h => h) (fun _ h => star_mono (P' := O) (fun _ h => h) (fun _ h => star_comm (star_mono (P' := Q) (fun _ h => h) (fun _ h => emp_right h) h)) h) h
  have h2 := star_in3 (star_mono (P' := C) (fun _ h => h) (fun _ h => star_mono (P' := O) (fun _ h => h) (fun _ h => h) h) h1 : star C (star O (star V Q)) W H)
  exact star_mono (fun _ h => h) (fun _ h => star_mono (fun _ h => h) (fun _ h => star_comm h) (star_swap (star_mono (fun _ h => h) (fun _ h => star_comm h) h))) h2
def validD (self inc : Int) : Prop := (0 ≤ self ∧ self < 8) ∧ 0 ≤ inc ∧ inc ≤ 1000000
def newD0 (self inc : Int) : DS := ⟨self, inc, 0, 0, -1, false, false, view0, [], [], []⟩
theorem newD_ok {self inc : Int} (h : validD self inc) : DsOk (newD self inc) := ⟨h.1, h.2, by show (0 : Int) ≤ 0 ∧ (0 : Int) ≤ 100000; omega, by show (0 : Int) ≤ 0 ∧ (0 : Int) ≤ 1000000; omega, by show (-1 : Int) ≤ -1 ∧ (-1 : Int) < 8; omega⟩
end
end Go.Proofs.Ytjbihgfdgaiecaa

/- RefHandle: RefHandle. -/
namespace Go.Proofs.Ytjbihgfdgaiecaa
section
open Go Go.RowKit Go.BigFrame
/-- A message that comes in, whatever else it bears. -/
structure InM where
  kind : Int
  frm : Int
  dst : Int
  seq : Int
  for' : Int
  about : Int
  mid : List Value
  p : Option Addr
  n : Nat
  cap : Nat
def InM.enc (m : InM) : List Value := [.int .i64 m.kind, .int .i64 m.frm, .int .i64 m.dst, .int .i64 m.seq, .int .i64 m.for', .int .i64 m.about] ++ m.mid ++ [.slice m.p m.n m.cap]
def InM.mm (m : InM) (l : List Cl) : MM := ⟨m.kind, m.frm, m.dst, m.seq, m.for', m.about, l⟩
@[simp, go_sem] theorem InM.val_cells (m : InM) : (Value.agg m.enc.toArray).cells = m.enc.toArray := rfl
abbrev inO (m : InM) : Obj := .cells m.enc.toArray 39 (0, 0)
structure InAt (W : World) (q : Nat) (m : InM) : Prop where
  lt : q < W.heap.size
  c0 : W.cell? ⟨q, 0, none⟩ = some (.int .i64 m.kind)
  c1 : W.cell? ⟨q, 1, none⟩ = some (.int .i64 m.frm)
  c2 : W.cell? ⟨q, 2, none⟩ = some (.int .i64 m.dst)
  c3 : W.cell? ⟨q, 3, none⟩ = some (.int .i64 m.seq)
  c4 : W.cell? ⟨q, 4, none⟩ = some (.int .i64 m.for')
  c5 : W.cell? ⟨q, 5, none⟩ = some (.int .i64 m.about)
  c61 : W.cell? ⟨q, 61, none⟩ = some (.slice m.p m.n m.cap)
  f : ∀ j, W.frozen? ⟨q, j, none⟩ = false
theorem inAt {W : World} {q : Nat} {m : InM} (hm : m.mid.length = 55) (h : W.heap[q]? = some (inO m)) : InAt W q m := by
  have hc : ∀ j, W.cell? ⟨q, j, none⟩ = m.enc[j]? := fun j => by simp [World.cell?, h]
  have h61 : m.enc[61]? = some (.slice m.p m.n m.cap) := by
    unfold InM.enc
    rw [List.getElem?_append_right (by simp [hm])]
    simp [hm]
  exact ⟨(Array.getElem?_eq_some_iff.1 h).1, hc 0, hc 1, hc 2, hc 3, hc 4, hc 5, (hc 61).trans h61, fun j => by simp [World.frozen?, h]⟩
/-- Messages that went out: each one's claims in a row of their own. -/
def ClsA : List RawM → List MM → Asn → Asn
  | [], [], P => P
  | r :: rs, m :: ms, P => pureA (r.kind = m.kind ∧ r.frm = m.frm ∧ r.dst = m.dst ∧ r.seq = m.seq ∧ r.for' = m.for' ∧ r.about = m.about) (star (RowO elemCl (.slice r.p r.n r.cap) m.claims) (ClsA rs ms P))
  | _, _, _ => fun _ _ => False
def MsgsA (u : Value) (ms : List MM) (P : Asn) : Asn := fun W H => ∃ raws, star (RowO elemM u raws) (ClsA raws ms P) W H
theorem clsA_owns {P : Asn} (hP : Owns P) : ∀ (rs : List RawM) (ms : List MM), Owns (ClsA rs ms P)
  | [], [] => hP
  | _ :: rs, _ :: ms => pureA_owns (star_owns (rowO_owns _ _ _) (clsA_owns hP rs ms))
  | [], _ :: _ => ⟨fun _ _ h => h.elim, fun _ _ _ h => h.elim⟩
  | _ :: _, [] => ⟨fun _ _ h => h.elim, fun _ _ _ h => h.elim⟩
theorem msgsA_owns {u : Value} {ms : List MM} {P : Asn} (hP : Owns P) : Owns (MsgsA u ms P) := exA_owns (P := fun raws => star (RowO elemM u raws) (ClsA raws ms P)) fun raws => star_owns (rowO_owns _ _ _) (clsA_owns hP raws ms)
theorem star_false {P : Asn} {H : Nat → Prop} {W : World} (h : P W H) (hn : RowO elemM (.slice none 0 0) [] W fun _ => False) : star (RowO elemM (.slice none 0 0) []) P W H := ⟨_, H, hn, h, fun _ h => h.elim, fun k => ⟨.inr, fun h => h.elim (fun h => h.elim) fun h => h⟩⟩
theorem msgs_none {P : Asn} {H : Nat → Prop} {W : World} (h : P W H) : MsgsA (.slice none 0 0) [] P W H := ⟨[], star_false h rowO_nil⟩
end
end Go.Proofs.Ytjbihgfdgaiecaa

/- MsgsRow: MsgsRow. -/
namespace Go.Proofs.Ytjbihgfdgaiecaa
section
open Go Go.RowKit
theorem clsA_mono {P Q : Asn} {W : World} : ∀ {rs : List RawM} {ms : List MM} {H : Nat → Prop}, (∀ H, P W H → Q W H) → ClsA rs ms P W H → ClsA rs ms Q W H
  | [], [], H, hpq, h => hpq H h
  | _ :: _, _ :: _, _, hpq, h => ⟨h.1, star_mono (fun _ h => h) (fun _ h => clsA_mono hpq h) h.2⟩
  | [], _ :: _, _, _, h => h.elim
  | _ :: _, [], _, _, h => h.elim
theorem clsA_len {P : Asn} {W : World} : ∀ {rs : List RawM} {ms : List MM} {H : Nat → Prop}, ClsA rs ms P W H → rs.length = ms.length
  | [], [], _, _ => rfl
  | _ :: rs, _ :: ms, _, h => by
    obtain ⟨_, _, _, _, h2, _⟩ := h
    rw [List.length_cons, List.length_cons, clsA_len h2]
  | [], _ :: _, _, h => h.elim
  | _ :: _, [], _, h => h.elim
theorem emp_left {P : Asn} {W : World} {H : Nat → Prop} (h : P W H) : star emp P W H := ⟨fun _ => False, H, fun _ h => h, h, fun _ h => h.elim, fun _ => ⟨.inr, fun h => h.elim (fun h => h.elim) fun h => h⟩⟩
theorem clsA_out {P : Asn} {W : World} : ∀ {rs : List RawM} {ms : List MM} {H : Nat → Prop}, ClsA rs ms P W H → star (ClsA rs ms emp) P W H
  | [], [], _, h => emp_left h
  | _ :: _, _ :: _, _, h => by
    obtain ⟨H1, H2, ⟨h1, h2⟩⟩ := star_assoc' (star_mono (fun _ h => h) (fun _ h => clsA_out h) h.2)
    exact ⟨H1, H2, ⟨h.1, h1⟩, h2⟩
  | [], _ :: _, _, h => h.elim
  | _ :: _, [], _, h => h.elim
theorem clsA_in {P : Asn} {W : World} : ∀ {rs : List RawM} {ms : List MM} {H : Nat → Prop}, star (ClsA rs ms emp) P W H → ClsA rs ms P W H
  | [], [], _, h => emp_right (star_comm h)
  | _ :: _, _ :: _, _, h => by
    obtain ⟨H1, H2, ⟨hp, h1⟩, h2⟩ := h
    exact ⟨hp, star_mono (fun _ h => h) (fun _ h => clsA_in h) (star_assoc ⟨H1, H2, h1, h2⟩)⟩
  | [], _ :: _, _, h => by obtain ⟨_, _, h, _⟩ := h; exact h.elim
  | _ :: _, [], _, h => by obtain ⟨_, _, h, _⟩ := h; exact h.elim
theorem clsA_snoc {P : Asn} {W : World} {r : RawM} {m : MM} (hf : r.kind = m.kind ∧ r.frm = m.frm ∧ r.dst = m.dst ∧ r.seq = m.seq ∧ r.for' = m.for' ∧ r.about = m.about) : ∀ {rs : List RawM} {ms : List MM} {H : Nat → Prop}, ClsA rs ms (star (RowO elemCl (.slice r.p r.n r.cap) m.claims) P) W H → ClsA (rs ++ [r]) (ms ++ [m]) P W H
  | [], [], _, h => ⟨hf, h⟩
  | _ :: _, _ :: _, _, h => ⟨h.1, star_mono (fun _ h => h) (fun _ h => clsA_snoc hf h) h.2⟩
  | [], _ :: _, _, h => h.elim
  | _ :: _, [], _, h => h.elim
theorem msgsA_mono {P Q : Asn} {W : World} {u : Value} {ms : List MM} {H : Nat → Prop} (hpq : ∀ H, P W H → Q W H) (h : MsgsA u ms P W H) : MsgsA u ms Q W H := by
  obtain ⟨raws, h⟩ := h
  exact ⟨raws, star_mono (fun _ h => h) (fun _ h => clsA_mono hpq h) h⟩
/-- The messages apart, and what lies beside them. -/
theorem msgsA_out {P : Asn} {W : World} {u : Value} {ms : List MM} {H : Nat → Prop} (h : MsgsA u ms P W H) : star (MsgsA u ms emp) P W H := by
  obtain ⟨raws, h⟩ := h
  obtain ⟨H1, H2, h1, h2⟩ := star_assoc' (star_mono (fun _ h => h) (fun _ h => clsA_out h) h)
  exact ⟨H1, H2, ⟨raws, h1⟩, h2⟩
theorem msgsA_in {P : Asn} {W : World} {u : Value} {ms : List MM} {H : Nat → Prop} (h : star (MsgsA u ms emp) P W H) : MsgsA u ms P W H := by
  obtain ⟨H1, H2, ⟨raws, h1⟩, h2⟩ := h
  exact ⟨raws, star_mono (fun _ h => h) (fun _ h => clsA_in h) (star_assoc ⟨H1, H2, h1, h2⟩)⟩
end
end Go.Proofs.Ytjbihgfdgaiecaa

/- RefTick: RefTick. -/
namespace Go.Proofs.Ytjbihgfdgaiecaa
section
open Go Go.RowKit
section
variable {w W : World} {H0 : Nat → Prop} {B : Asn} {d pv pq po pc : Nat} {s : DS}
theorem cellsI_elem : ∀ l : List Int, cellsI l = elemI.cells l
  | [] => rfl
  | x :: l => by rw [Elem.cells_cons, ← cellsI_elem l]; rfl
/-- A row of ints that a call has made, beside the rest. -/
theorem SEnd.madeI {P : Asn} {W' : World} {u : Value} {l : List Int} (hP : Owns P) (h : SEnd P H0 w W) (hm : MadeI W W' u l) : SEnd (star (RowO elemI u l) P) H0 w W' := by
  obtain ⟨hr, hb⟩ := hm
  rw [cellsI_elem] at hr
  exact SEnd.fresh (HQ := fun k => u.ownBlock = some k) hP (rowO_owns elemI u l) h hb ⟨row_zeroE hr, fun _ => .rfl⟩ fun k hk => (hr.lt k hk).1
theorem srcI_of {W : World} {v : Value} {l : List Int} (h : SrcE elemI W v l) : SrcI W v l := ⟨ints_rowAt h.1, h.2⟩
end
end
end Go.Proofs.Ytjbihgfdgaiecaa
