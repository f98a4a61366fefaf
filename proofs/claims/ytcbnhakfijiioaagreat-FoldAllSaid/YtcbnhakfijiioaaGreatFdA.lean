/- Cursors: what FoldAll keeps: what was told last of each key is its bag, or it is due. -/
import Derived.Test.YtcbnhakfijiioaaGreatFdM
import Derived.Test.YtcbnhakfijiioaaGreatVtR
namespace Go.Proofs.YtcbnhakfijiioaaGreat
open Go Go.RowKit
def toldB (F : Fd) (k : ByteArray) : Bool := !newK F k
structure Fa (n : Int) (X : Vl2) (F : Fd) (M : Mp ByteArray Hv) (G : At) (i : Nat) : Prop where
 kept : Kept X
 room : X.2.room = 300
 len : X.2.l.length ≤ i
 fd : FdOk F
 part : F.part = n
 mok : MpOk M
 dom : ∀ e ∈ M.es, e.1 ∈ keysV X.1 n ∧ newK F e.1 = false
 told : ∀ k ∈ keysV X.1 n, newK F k = false → k ∈ F.due ∨ ∃ x, M.get k = some x ∧ x.b = bagV X.1 k
 due : ∀ k ∈ F.due, k ∈ keysV X.1 n
 rd : ∀ e ∈ M.es, Reads elemV G (.slice e.2.1.p e.2.1.n e.2.1.c) e.2.1.b.v ∧ e.2.1.b.v.length ≤ 32
section
variable {n : Int} {X Y : Vl2} {F : Fd} {M : Mp ByteArray Hv} {rs : List At} {i : Nat}
theorem Fa.start (hn : 0 ≤ n ∧ n < 16) : Fa n (playD (newL 300).l, newL 300) (newF n) Mp.no (listT []) 0 := ⟨Kept.open (LgOk.new 300), rfl, Nat.le_refl _, FdOk.new hn, rfl, MpOk.no, (fun e h => by cases h), (fun k hk => by cases hk), (fun k hk => by cases hk), fun e h => by cases h⟩
theorem Fa.more (h : Fa n X F M (listT rs) i) : Fa n X F M (listT rs) (i + 1) := ⟨h.kept, h.room, Nat.le_succ_of_le h.len, h.fd, h.part, h.mok, h.dom, h.told, h.due, h.rd⟩
theorem Fa.srt (h : Fa n X F M (listT rs) i) : (keysV X.1 n).Pairwise ltK := keysV_srt h.kept.ok.srt n
theorem Fa.klen (h : Fa n X F M (listT rs) i) : (keysV X.1 n).length ≤ i := by
 have h1 : (keysV X.1 n).length ≤ X.1.b.length := by rw [keysV_len]; exact List.countP_le_length
 have h2 := h.kept.len
 have h3 := h.len
 omega
theorem Fa.noMore (h : Fa n X F M (listT rs) i) (hk : (nextF F (keysV X.1 n)).2 = none) : F.due = [] ∧ (nextF F (keysV X.1 n)).1 = F ∧ ∀ k ∈ keysV X.1 n, newK F k = false := by
 rcases next_ways F (keysV X.1 n) with ⟨k, r, _, h2⟩ | ⟨k, _, _, h2⟩ | ⟨h1, h2, h3⟩
 ·rw [h2] at hk
  cases hk
 ·rw [h2] at hk
  cases hk
 ·have hd : F.due = [] := by
   have h4 := (popD_none h1).2
   refine List.eq_nil_iff_forall_not_mem.2 fun k hk => h4 k hk (h.due k hk)
  refine ⟨hd, ?_, fun k hk => ?_⟩
  ·rw [h3]
   show (⟨F.part, F.any, F.last, []⟩ : Fd) = F
   rw [← hd]
  ·have := List.find?_eq_none.1 h2 k hk
   simpa using this
theorem Fa.tell (h : Fa n X F M (listT rs) i) {k : ByteArray} (hk : (nextF F (keysV X.1 n)).2 = some k) {A : At} {p : Option Addr} {m c : Nat} (hA : Reads elemV A (.slice p m c) (bagV X.1 k).v) : Fa n X (nextF F (keysV X.1 n)).1 (M.put k ⟨bagV X.1 k, p, m, c⟩) (listT (A :: rs)) (i + 1) := by
 have hkm := next_mem hk
 have hnew : ∀ q ∈ keysV X.1 n, newK (nextF F (keysV X.1 n)).1 q = false → q = k ∨ (newK F q = false ∧ (q ∈ F.due → q ∈ (nextF F (keysV X.1 n)).1.due)) := by
  intro q hq hnq
  rcases next_ways F (keysV X.1 n) with ⟨x, r, h1, h2⟩ | ⟨x, h1, h3, h2⟩ | ⟨_, _, h2⟩
  ·rw [h2] at hk hnq ⊢
   obtain rfl := Option.some.inj hk
   by_cases e : q = x
   ·exact .inl e
   ·refine .inr ⟨hnq, fun hd => ?_⟩
    obtain ⟨_, _, a, h4, h5⟩ := popD_some h1
    rw [h4] at hd
    rcases List.mem_append.1 hd with hd | hd
    ·exact absurd hq (h5 q hd)
    ·rcases List.mem_cons.1 hd with hd | hd
     ·exact absurd hd e
     ·exact hd
  ·rw [h2] at hk hnq ⊢
   obtain rfl := Option.some.inj hk
   by_cases e : q = x
   ·exact .inl e
   ·have hq2 : ¬ ltK x q := by
     have hnq : (!true || decide (ltK x q)) = false := hnq
     simpa using hnq
    refine .inr ⟨?_, fun hd => absurd (h.due q hd) ((popD_none h1).2 q hd)⟩
    obtain ⟨h4, a, b, h5, h6⟩ := List.find?_eq_some_iff_append.1 h3
    have hs := h.srt
    rw [h5] at hs hq
    rcases List.mem_append.1 hq with hq | hq
    ·simpa using h6 q hq
    ·rcases List.mem_cons.1 hq with hq | hq
     ·exact absurd hq e
     ·have := (List.pairwise_append.1 hs).2.1
      exact absurd ((List.pairwise_cons.1 this).1 q hq) hq2
  ·rw [h2] at hk
   cases hk
 have hold : ∀ q, newK F q = false → newK (nextF F (keysV X.1 n)).1 q = false := by
  intro q hq
  rcases next_ways F (keysV X.1 n) with ⟨x, r, _, h2⟩ | ⟨x, _, h3, h2⟩ | ⟨_, _, h2⟩
  ·rw [h2]
   exact hq
  ·rw [h2]
   have hx : newK F x = true := by simpa using List.find?_some h3
   show (!true || decide (ltK x q)) = false
   have : ¬ ltK x q := by
    intro hlt
    unfold newK at hq hx
    cases hany : F.any with
    | false =>
     rw [hany] at hq
     cases hq
    | true =>
     rw [hany] at hq hx
     have h5 : ltK F.last x := by simpa using hx
     have h6 : ¬ ltK F.last q := by simpa using hq
     exact h6 (ltK_trans h5 hlt)
   simpa using this
  ·rw [h2]
   exact hq
 have hself : newK (nextF F (keysV X.1 n)).1 k = false := by
  rcases next_ways F (keysV X.1 n) with ⟨x, r, h1, h2⟩ | ⟨x, _, h3, h2⟩ | ⟨_, _, h2⟩
  ·rw [h2] at hk ⊢
   obtain rfl := Option.some.inj hk
   have := h.fd.due x (popD_some h1).2.1
   unfold newK
   rw [this.2.1]
   simpa using this.2.2
  ·rw [h2] at hk ⊢
   obtain rfl := Option.some.inj hk
   show (!true || decide (ltK x x)) = false
   simpa using ltK_irrefl x
  ·rw [h2] at hk
   cases hk
 refine ⟨h.kept, h.room, Nat.le_succ_of_le h.len, h.fd.next _, (next_part _ _).trans h.part, h.mok.put _ _, fun e he => ?_, fun q hq hnq => ?_, fun q hq => ?_, fun e he => ?_⟩
 ·rcases Mp.mem_put' h.mok he with ⟨_, h2⟩ | ⟨h1, _⟩
  ·have := h.dom e h2
   exact ⟨this.1, hold _ this.2⟩
  ·rw [h1]
   exact ⟨hkm, hself⟩
 ·rcases hnew q hq hnq with rfl | ⟨h1, h2⟩
  ·exact .inr ⟨_, by rw [Mp.get_put, if_pos rfl], rfl⟩
  ·by_cases e : q = k
   ·exact .inr ⟨_, by rw [Mp.get_put, if_pos e], by rw [e]⟩
   ·rcases h.told q hq h1 with h3 | ⟨x, h3, h4⟩
    ·exact .inl (h2 h3)
    ·exact .inr ⟨x, by rw [Mp.get_put, if_neg e]; exact h3, h4⟩
 ·refine h.due q ?_
  rcases next_ways F (keysV X.1 n) with ⟨x, r, h1, h2⟩ | ⟨x, _, _, h2⟩ | ⟨_, _, h2⟩
  ·rw [h2] at hq
   have := popD_sub (keysV X.1 n) F.due
   rw [h1] at this
   exact this.subset hq
  ·rw [h2] at hq
   cases hq
  ·rw [h2] at hq
   cases hq
 ·rcases Mp.mem_put' h.mok he with ⟨_, h2⟩ | ⟨_, h2⟩
  ·have := h.rd e h2
   exact ⟨reads_more this.1, this.2⟩
  ·rw [h2]
   exact ⟨fun W H ⟨H1, _, h3, _, _, _⟩ => hA W H1 h3, bagV_len h.kept.ok k⟩
theorem Fa.put (h : Fa n X F M (listT rs) i) {k t : ByteArray} {known : Nat → Int} {d : En} (hp : putV X 0 k known t = (Y, d, 0)) : Fa n Y (backF F k) M (listT rs) (i + 1) := by
 rcases putV_ways X 0 k known t with ⟨x, e, hm, hk, _, _, hr⟩ | ⟨e, he, h1⟩
 ·have hYe : Y = (countD X.1 (kbD (X.1.dots + 1) k x), ⟨X.2.room, X.2.sure, X.2.l ++ [kbD (X.1.dots + 1) k x]⟩) := by
   rw [e] at hp
   exact (congrArg (fun z => z.1) hp).symm
  have hYk : Kept Y := by
   have := h.kept.put 0 k known t
   rw [hp] at this
   exact this
  have hbag : ∀ q, q ≠ k → bagV Y.1 q = bagV X.1 q := fun q hq => by
   rw [hYe]
   show bagV (countD X.1 _) q = _
   rw [bag_count (d := kbD (X.1.dots + 1) k x) rfl]
   exact if_neg hq
  have hkeys : ∀ q, q ∈ keysV Y.1 n ↔ q ∈ keysV X.1 n ∨ (q = k ∧ ofK k = n) := fun q => by
   have hh : hasK Y.1 q = (hasK X.1 q || decide (q = k)) := by
    rw [hYe]
    exact hasK_put (d := kbD (X.1.dots + 1) k x) rfl q
   have a1 : ∀ {Z : Vl2} (_ : Kept Z), q ∈ keysV Z.1 n ↔ hasK Z.1 q = true ∧ ofK q = n := fun hZ => by rw [mem_keysV, hasK_iff hZ.ok.srt]
   rw [a1 hYk, a1 h.kept, hh, Bool.or_eq_true, decide_eq_true_eq]
   constructor
   ·rintro ⟨h1 | h1, h2⟩
    ·exact .inl ⟨h1, h2⟩
    ·exact .inr ⟨h1, h1 ▸ h2⟩
   ·rintro (⟨h1, h2⟩ | ⟨h1, h2⟩)
    ·exact ⟨.inl h1, h2⟩
    ·exact ⟨.inr h1, h1 ▸ h2⟩
  have hbn : ∀ q, newK (backF F k) q = newK F q := fun q => by
   unfold backF
   split <;> rfl
  refine ⟨hYk, ?_, ?_, h.fd.back k, (back_part _ _).trans h.part, h.mok, fun e he => ?_, fun q hq hnq => ?_, fun q hq => ?_, h.rd⟩
  ·rw [hYe]
   exact h.room
  ·rw [hYe]
   show (X.2.l ++ [_]).length ≤ i + 1
   rw [List.length_append]
   exact Nat.succ_le_succ h.len
  ·have := h.dom e he
   exact ⟨(hkeys _).2 (.inl this.1), by rw [hbn]; exact this.2⟩
  ·rw [hbn] at hnq
   by_cases e : q = k
   ·left
    have hpart : ofK k = n := by
     rcases (hkeys q).1 hq with h1 | h1
     ·rw [← e]
      exact (mem_keysV.1 h1).2
     ·exact h1.2
    have hb : backB F k = true := by
     unfold backB
     rw [decide_eq_true (hpart.trans h.part.symm), Bool.true_and, ← e]
     unfold newK at hnq
     cases hany : F.any with
     | false =>
      rw [hany] at hnq
      cases hnq
     | true =>
      rw [hany] at hnq
      simpa using hnq
    unfold backF
    rw [if_pos hb, e]
    exact mem_insK.2 (.inl rfl)
   ·rcases (hkeys q).1 hq with h1 | h1
    ·rcases h.told q h1 hnq with h2 | ⟨x, h2, h3⟩
     ·left
      unfold backF
      split
      ·exact mem_insK.2 (.inr h2)
      ·exact h2
     ·exact .inr ⟨x, h2, by rw [hbag q e]; exact h3⟩
    ·exact absurd h1.1 e
  ·have hq2 : q ∈ F.due ∨ (q = k ∧ backB F k = true) := by
    unfold backF at hq
    split at hq
    ·rename_i hb
     rcases mem_insK.1 hq with h1 | h1
     ·exact .inr ⟨h1, hb⟩
     ·exact .inl h1
    ·exact .inl hq
   rcases hq2 with h1 | ⟨rfl, hb⟩
   ·exact (hkeys q).2 (.inl (h.due q h1))
   ·refine (hkeys q).2 (.inr ⟨rfl, ?_⟩)
    unfold backB at hb
    simp only [Bool.and_eq_true, decide_eq_true_eq] at hb
    exact hb.1.trans h.part
 ·rw [h1] at hp
  exact absurd (congrArg (fun z => z.2.2) hp) he
def restF (F : Fd) (ks : List ByteArray) : Nat := F.due.length + (ks.filter (newK F)).length
theorem Fa.rest_le (h : Fa n X F M (listT rs) i) : restF F (keysV X.1 n) ≤ 2 * i := by
 have h1 := h.klen
 have h2 : (List.filter (newK F) (keysV X.1 n)).length ≤ (keysV X.1 n).length := List.length_filter_le _ _
 have h3 : F.due.length ≤ (keysV X.1 n).length := by
  have hn : F.due.Nodup := h.fd.srt.imp fun h => ltK_ne h
  have hk : ((keysV X.1 n).filter fun q => hasL F.due q).Nodup := (h.srt.imp fun h => ltK_ne h).sublist List.filter_sublist
  have hp : F.due.Perm ((keysV X.1 n).filter fun q => hasL F.due q) := (List.perm_ext_iff_of_nodup hn hk).2 fun q => by
   rw [List.mem_filter, hasL_iff]
   exact ⟨fun hq => ⟨h.due q hq, hq⟩, fun hq => hq.2⟩
  rw [hp.length_eq]
  exact List.length_filter_le _ _
 unfold restF
 omega
theorem rest_next {F : Fd} {ks : List ByteArray} {k : ByteArray} (h : (nextF F ks).2 = some k) : restF (nextF F ks).1 ks < restF F ks := by
 rcases next_ways F ks with ⟨x, r, h1, h2⟩ | ⟨x, _, h3, h2⟩ | ⟨_, _, h2⟩
 ·rw [h2]
  obtain ⟨_, _, a, h4, _⟩ := popD_some h1
  show r.length + (ks.filter (newK F)).length < F.due.length + (ks.filter (newK F)).length
  rw [h4, List.length_append, List.length_cons]
  omega
 ·rw [h2]
  have hx : newK F x = true := by simpa using List.find?_some h3
  have hm := List.mem_of_find?_eq_some h3
  show 0 + (ks.filter (newK ⟨F.part, true, x, []⟩)).length < F.due.length + (ks.filter (newK F)).length
  have : (ks.filter (newK ⟨F.part, true, x, []⟩)).length < (ks.filter (newK F)).length := by
   refine filter_lt _ _ (fun q hq => ?_) x hx ?_ ks hm
   ·have hq : (!true || decide (ltK x q)) = true := hq
    have hq : ltK x q := by simpa using hq
    unfold newK at hx ⊢
    cases hany : F.any with
    | false => rfl
    | true =>
     rw [hany] at hx
     have h5 : ltK F.last x := by simpa using hx
     simpa using ltK_trans h5 hq
   ·show (!true || decide (ltK x x)) = false
    simpa using ltK_irrefl x
  omega
 ·rw [h2] at h
  cases h
theorem Fa.end_ (h : Fa n X F M (listT rs) i) (hk : (nextF F (keysV X.1 n)).2 = none) : M.es.length = (keysV X.1 n).length ∧ ∀ k ∈ keysV X.1 n, ∃ x, M.get k = some x ∧ x.b = bagV X.1 k := by
 obtain ⟨h1, _, h3⟩ := h.noMore hk
 have h4 : ∀ k ∈ keysV X.1 n, ∃ x, M.get k = some x ∧ x.b = bagV X.1 k := fun k hk => by
  rcases h.told k hk (h3 k hk) with h5 | h5
  ·rw [h1] at h5
   cases h5
  ·exact h5
 refine ⟨?_, h4⟩
 have hp : (M.es.map fun e => e.1).Perm (keysV X.1 n) := by
  refine (List.perm_ext_iff_of_nodup h.mok.keys (h.srt.imp fun h => ltK_ne h)).2 fun k => ⟨fun hk => ?_, fun hk => ?_⟩
  ·obtain ⟨e, he, rfl⟩ := List.mem_map.1 hk
   exact (h.dom e he).1
  ·obtain ⟨x, hx, _⟩ := h4 k hk
   obtain ⟨m, hm⟩ := getE_mem hx
   exact List.mem_map.2 ⟨_, hm, rfl⟩
 rw [← hp.length_eq, List.length_map]
end
end Go.Proofs.YtcbnhakfijiioaaGreat
