/- Vaults: what VaultLasts keeps: all that is sure is there. -/
import Derived.Test.YtcbnhakfijiioaaGreatVtQ
import Derived.Test.YtcbnhakfijiioaaGreatVtK
import Derived.Test.YtcbnhakfijiioaaGreatPB
namespace Go.Proofs.YtcbnhakfijiioaaGreat
open Go Go.RowKit
structure Hv where
 b : Bg
 p : Option Addr
 n : Nat
 c : Nat
def valB (x : Hv) : Value := bgV x.b.k (.slice x.p x.n x.c)
theorem Mem.cons1 {A : At} {l L : List At} {H0 : Nat → Prop} {w W : World} (h : Mem (A :: listT l :: L) H0 w W) : Mem (listT (A :: l) :: L) H0 w W := SEnd.mono h fun _ h => star_assoc' h
theorem Mem.nilL {L : List At} {H0 : Nat → Prop} {w W : World} (h : Mem L H0 w W) : Mem (listT [] :: L) H0 w W := SEnd.mono h fun _ h => starl_emp h
theorem reads_more {α : Type} {E : Elem Tryz.prog α} {A : At} {l : List At} {v : Value} {xs : List α} (h : Reads E (listT l) v xs) : Reads E (listT (A :: l)) v xs := fun W _ ⟨_, H2, _, h2, _, _⟩ => h W H2 h2
/- How many entries an iterator has not handed out. -/
def leftN {κ α : Type} (M : Mp κ α) (seen : List Nat) : Nat := (M.es.filter fun e => !seen.contains e.2.2).length
theorem left_lt {κ α : Type} {M : Mp κ α} {seen : List Nat} {e : κ × α × Nat} (h : e ∈ M.es) (hn : e.2.2 ∉ seen) : leftN M (seen ++ [e.2.2]) < leftN M seen := by
 unfold leftN
 refine filter_lt _ _ (fun x hx => ?_) e (by simpa using hn) (by simp) M.es h
 simp only [List.contains_append, Bool.not_or, Bool.and_eq_true] at hx
 exact hx.1
theorem left_del {κ α : Type} [DecidableEq κ] (M : Mp κ α) (k : κ) (seen : List Nat) : leftN (M.del k) seen ≤ leftN M seen := (delE_sub.filter _).length_le
theorem Mp.mem_put' {κ α : Type} [DecidableEq κ] {M : Mp κ α} (hM : MpOk M) {k : κ} {a : α} {e : κ × α × Nat} (h : e ∈ (M.put k a).es) : (e.1 ≠ k ∧ e ∈ M.es) ∨ (e.1 = k ∧ e.2.1 = a) := by
 have h1 : (M.put k a).get e.1 = some e.2.1 := getE_of (hM.put k a).keys h
 rw [Mp.get_put] at h1
 by_cases hk : e.1 = k
 ·rw [if_pos hk] at h1
  exact .inr ⟨hk, (Option.some.inj h1).symm⟩
 ·rcases Mp.mem_put h with h2 | h2
  ·exact .inl ⟨hk, h2⟩
  ·exact absurd h2.1 hk
theorem bag_count {S : Vt} {d : Dd} (h : d.kind = 3) (k : ByteArray) : bagV (countD S d) k = if k = d.key then d.b else bagV S k := by
 rw [countD_3 h]
 unfold bagV
 show ((getK (putK d.key d.b S.b) k).getD noB) = _
 by_cases e : k = d.key
 ·rw [e, getK_put, if_pos rfl]
  rfl
 ·rw [getK_other _ e, if_neg e]
theorem bag_drop (S : Vt) (n : Int) (k : ByteArray) : bagV (dropS S n) k = if ofK k = n then noB else bagV S k := by
 unfold bagV
 show ((getK (dropK n S.b) k).getD noB) = _
 rw [getK_drop]
 by_cases e : ofK k = n
 ·rw [if_pos e, if_pos e]
  rfl
 ·rw [if_neg e, if_neg e]
theorem bagV_may {S : Vt} (h : VtOk S) (k : ByteArray) : MayB (bagV S k) := by
 unfold bagV
 cases hg : getK S.b k with
 | none => exact may_noB
 | some x => exact h.may _ (getK_mem hg)
theorem bagV_len {S : Vt} (h : VtOk S) (k : ByteArray) : (bagV S k).v.length ≤ 32 := (bagV_may h k).len
theorem crash_all {S : Lg} (h : S.sure = S.l.length) : crashL S 0 = (S, 0) := by
 have hk : keepL S 0 = S.l.length := by
  unfold keepL
  rw [h, Nat.sub_self]
  show S.l.length + min 0 0 = _
  omega
 unfold crashL
 rw [hk, List.take_length]
 refine Prod.ext ?_ ?_
 ·show (⟨S.room, S.l.length, S.l⟩ : Lg) = S
  rw [← h]
 ·show (S.l.length : Int) - (S.l.length : Int) = 0
  omega
theorem crash_one {S : Lg} (d : Dd) (h : S.sure = S.l.length) : (crashL ⟨S.room, S.sure, S.l ++ [d]⟩ 0).1 = S := by
 have hk : keepL ⟨S.room, S.sure, S.l ++ [d]⟩ 0 = S.l.length := by
  unfold keepL
  show S.sure + min 0 _ = _
  omega
 unfold crashL
 rw [hk]
 show (⟨S.room, S.l.length, (S.l ++ [d]).take S.l.length⟩ : Lg) = S
 rw [List.take_left, ← h]
structure La (X : Vl2) (M : Mp ByteArray Hv) (D : Mp En Int) (top : Int) (G : At) (i : Nat) : Prop where
 kept : Kept X
 room : X.2.room = 200
 len : X.2.l.length ≤ i
 all : X.2.sure = X.2.l.length
 dots : X.1.dots = top
 mok : MpOk M
 bag : ∀ e ∈ M.es, bagV X.1 e.1 = e.2.1.b ∧ e.1.size ≤ 32
 rd : ∀ e ∈ M.es, Reads elemV G (.slice e.2.1.p e.2.1.n e.2.1.c) e.2.1.b.v ∧ e.2.1.b.v.length ≤ 32
 dok : MpOk D
 dle : ∀ e ∈ D.es, e.1.2 ≤ top
section
variable {X Y : Vl2} {M M' : Mp ByteArray Hv} {D : Mp En Int} {top : Int} {rs : List At} {i : Nat}
theorem La.start : La (playD (newL 200).l, newL 200) Mp.no Mp.no 0 (listT []) 0 := ⟨Kept.open (LgOk.new 200), rfl, Nat.le_refl _, rfl, rfl, MpOk.no, (fun e h => by cases h), (fun e h => by cases h), MpOk.no, fun e h => by cases h⟩
theorem La.upto (h : La X M D top (listT rs) i) : 0 ≤ top ∧ top ≤ 1000000 := by rw [← h.dots]; exact h.kept.ok.dots
theorem La.next (h : La X M D top (listT rs) i) : La X M D top (listT rs) (i + 1) := ⟨h.kept, h.room, Nat.le_succ_of_le h.len, h.all, h.dots, h.mok, h.bag, h.rd, h.dok, h.dle⟩
theorem La.drop (h : La X M D top (listT rs) i) (hi : i < 60) {n e : Int} (hd : dropV X n = (Y, e)) (hM : MpOk M') (hs : ∀ x ∈ M'.es, x ∈ M.es) (hn : ∀ x ∈ M'.es, ofK x.1 ≠ n) : La (Y.1, (syncL Y.2).1) M' D top (listT rs) (i + 1) := by
 have hk := h.kept.drop n
 have hlen := h.len
 by_cases hr : 0 ≤ n ∧ n < 16
 ·have hq := dropV_ok (X := X) hr (by rw [h.room]; omega)
  rw [hd] at hk hq
  obtain ⟨_, q2, q3, q4⟩ := hq
  refine ⟨hk.sync, q3.trans h.room, ?_, rfl, ?_, hM, fun x hx => ?_, fun x hx => h.rd x (hs x hx), h.dok, h.dle⟩
  ·have q4 : Y.2.l.length ≤ X.2.l.length + 1 := q4
   show Y.2.l.length ≤ i + 1
   omega
  ·have q2 : Y.1 = dropS X.1 n := q2
   show Y.1.dots = top
   rw [q2]
   exact h.dots
  ·have q2 : Y.1 = dropS X.1 n := q2
   show bagV Y.1 x.1 = _ ∧ _
   rw [q2, bag_drop, if_neg (hn x hx)]
   exact h.bag x (hs x hx)
 ·rw [dropV_no X hr] at hd
  have hY : Y = X := (congrArg (fun z => z.1) hd).symm
  subst hY
  exact ⟨h.kept.sync, h.room, Nat.le_succ_of_le h.len, rfl, h.dots, hM, fun x hx => h.bag x (hs x hx), fun x hx => h.rd x (hs x hx), h.dok, h.dle⟩
theorem La.lay (h : La X M D top (listT rs) i) {k : ByteArray} (hk : k.size ≤ 32) {top' : Int} {D' : Mp En Int} (hYk : Kept Y) (hYr : Y.2.room = 200) (hYl : Y.2.l.length ≤ i + 1) (hYd : Y.1.dots = top') (hYb : ∀ q, q ≠ k → bagV Y.1 q = bagV X.1 q) (hD : MpOk D') (hle : ∀ e ∈ D'.es, e.1.2 ≤ top') {A : At} {b : Bg} (hb : bagV Y.1 k = b) {p : Option Addr} {n c : Nat} (hA : Reads elemV A (.slice p n c) b.v) : La (Y.1, (syncL Y.2).1) (M.put k ⟨b, p, n, c⟩) D' top' (listT (A :: rs)) (i + 1) := by
 refine ⟨hYk.sync, hYr, hYl, rfl, hYd, h.mok.put _ _, fun x hx => ?_, fun x hx => ?_, hD, hle⟩
 ·rcases Mp.mem_put' h.mok hx with ⟨h1, h2⟩ | ⟨h1, h2⟩
  ·have := h.bag x h2
   exact ⟨(hYb x.1 h1).trans this.1, this.2⟩
  ·rw [h1, h2]
   exact ⟨hb, hk⟩
 ·rcases Mp.mem_put' h.mok hx with ⟨h1, h2⟩ | ⟨h1, h2⟩
  ·have := h.rd x h2
   exact ⟨reads_more this.1, this.2⟩
  ·rw [h2]
   refine ⟨fun W H ⟨H1, _, h3, _, _, _⟩ => hA W H1 h3, ?_⟩
   show b.v.length ≤ 32
   rw [← hb]
   exact bagV_len hYk.ok k
theorem keyB_size {k : ByteArray} (h : keyB k = true) : k.size ≤ 32 := by
 unfold keyB at h
 exact (of_decide_eq_true h).2
theorem La.merge (h : La X M D top (listT rs) i) {k : ByteArray} {b : Bg} (hm : mergeV X k b = (Y, 0)) : k.size ≤ 32 ∧ Kept Y ∧ Y.2.room = 200 ∧ Y.2.l.length ≤ i + 1 ∧ Y.1.dots = top ∧ ∀ q, q ≠ k → bagV Y.1 q = bagV X.1 q := by
 have hk := h.kept.merge k b
 have hl := h.len
 rcases mergeV_ways X k b with ⟨h1, h2, _⟩ | ⟨x, h1, h2, h3, _⟩ | ⟨e, h1, h2⟩
 ·rw [hm] at h1 hk
  have hY : Y = X := congrArg (fun z => z.1) h1
  subst hY
  exact ⟨keyB_size h2, hk, h.room, by omega, h.dots, fun _ _ => rfl⟩
 ·rw [hm] at h1 hk
  have hY : Y = _ := congrArg (fun z => z.1) h1
  refine ⟨keyB_size h3, hk, by rw [hY]; exact h.room, ?_, ?_, fun q hq => ?_⟩
  ·rw [hY]
   show (X.2.l ++ [_]).length ≤ i + 1
   rw [List.length_append]
   show X.2.l.length + 1 ≤ i + 1
   omega
  ·rw [hY]
   show (countD X.1 (kbD X.1.dots k x)).dots = top
   rw [countD_3 (d := kbD X.1.dots k x) rfl]
   show max X.1.dots X.1.dots = top
   rw [h.dots]
   omega
  ·rw [hY]
   show bagV (countD X.1 (kbD X.1.dots k x)) q = _
   rw [bag_count (d := kbD X.1.dots k x) rfl]
   exact if_neg hq
 ·rw [hm] at h2
  exact absurd (congrArg (fun z => z.2) h2).symm h1
theorem merge_no {X Y : Vl2} {k : ByteArray} {b : Bg} {e : Int} (hm : mergeV X k b = (Y, e)) (he : e ≠ 0) : Y = X := by
 rcases mergeV_ways X k b with ⟨h1, _⟩ | ⟨x, h1, _⟩ | ⟨y, _, h2⟩
 ·rw [hm] at h1
  exact absurd (congrArg (fun z => z.2) h1) he
 ·rw [hm] at h1
  exact absurd (congrArg (fun z => z.2) h1) he
 ·rw [hm] at h2
  exact congrArg (fun z => z.1) h2
theorem La.put (h : La X M D top (listT rs) i) {k t : ByteArray} {known : Nat → Int} {d : En} (hp : putV X 0 k known t = (Y, d, 0)) : k.size ≤ 32 ∧ Kept Y ∧ Y.2.room = 200 ∧ Y.2.l.length ≤ i + 1 ∧ d = (0, top + 1) ∧ Y.1.dots = top + 1 ∧ (∀ q, q ≠ k → bagV Y.1 q = bagV X.1 q) ∧ (crashL Y.2 0).1 = X.2 := by
 have hk := h.kept.put 0 k known t
 have hl := h.len
 rcases putV_ways X 0 k known t with ⟨x, h1, _, h3, _⟩ | ⟨e, h1, h2⟩
 ·rw [hp] at h1 hk
  have hY : Y = _ := congrArg (fun z => z.1) h1
  have hd : d = _ := congrArg (fun z => z.2.1) h1
  refine ⟨keyB_size h3, hk, by rw [hY]; exact h.room, ?_, by rw [hd, h.dots], ?_, fun q hq => ?_, ?_⟩
  ·rw [hY]
   show (X.2.l ++ [_]).length ≤ i + 1
   rw [List.length_append]
   show X.2.l.length + 1 ≤ i + 1
   omega
  ·rw [hY]
   show (countD X.1 (kbD (X.1.dots + 1) k x)).dots = top + 1
   rw [countD_3 (d := kbD (X.1.dots + 1) k x) rfl]
   show max X.1.dots (X.1.dots + 1) = top + 1
   rw [h.dots]
   omega
  ·rw [hY]
   show bagV (countD X.1 (kbD (X.1.dots + 1) k x)) q = _
   rw [bag_count (d := kbD (X.1.dots + 1) k x) rfl]
   exact if_neg hq
  ·rw [hY]
   exact crash_one _ h.all
 ·rw [hp] at h2
  exact absurd (congrArg (fun z => z.2.2) h2).symm h1
theorem put_no {X Y : Vl2} {node : Int} {k t : ByteArray} {known : Nat → Int} {d : En} {e : Int} (hp : putV X node k known t = (Y, d, e)) (he : e ≠ 0) : Y = X := by
 rcases putV_ways X node k known t with ⟨x, h1, _⟩ | ⟨y, _, h2⟩
 ·rw [hp] at h1
  exact absurd (congrArg (fun z => z.2.2) h1) he
 ·rw [hp] at h2
  exact congrArg (fun z => z.1) h2
theorem La.fresh (h : La X M D top (listT rs) i) : D.get (0, top + 1) = none := by
 cases hg : D.get (0, top + 1) with
 | none => rfl
 | some x =>
  obtain ⟨n, hn⟩ := getE_mem hg
  have : (top + 1 : Int) ≤ top := h.dle _ hn
  omega
theorem La.dput (h : La X M D top (listT rs) i) : MpOk (D.put (0, top + 1) 1) ∧ ∀ e ∈ (D.put (0, top + 1) 1).es, e.1.2 ≤ top + 1 := by
 refine ⟨h.dok.put _ _, fun e he => ?_⟩
 rcases Mp.mem_put he with h1 | ⟨h1, _⟩
 ·have := h.dle e h1
  omega
 ·rw [h1]
  exact Int.le_refl _
theorem La.again (h : La X M D top (listT rs) i) : playD X.2.l = X.1 := h.kept.vt.symm
end
end Go.Proofs.YtcbnhakfijiioaaGreat
