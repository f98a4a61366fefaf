/- Givers: what GiveAll keeps. -/
import Derived.Test.YtcchkkdbagpgjaaGreatQ15
namespace Go.Proofs.YtcchkkdbagpgjaaGreat
open Go
def kVa : ByteArray := ⟨#[118]⟩
def datA : En → ByteArray := fun _ => kVa
theorem same_commA {a b : Bg} (h : sameB a b = true) : sameB b a = true := sameB_iff.2 ⟨fun i hi => ((sameB_iff.1 h).1 i hi).symm, (sameB_iff.1 h).2.symm⟩
theorem same_transA {a b c : Bg} (h1 : sameB a b = true) (h2 : sameB b c = true) : sameB a c = true := sameB_iff.2 ⟨fun i hi => ((sameB_iff.1 h1).1 i hi).trans ((sameB_iff.1 h2).1 i hi), (sameB_iff.1 h1).2.trans (sameB_iff.1 h2).2⟩
theorem has_sameA {a b : Bg} (h : sameB a b = true) (d : En) : hasV a.k d = hasV b.k d := by
 have h1 := (sameB_iff.1 h).1
 rw [Bool.eq_iff_iff, hasV_iff, hasV_iff]
 constructor
 ·rintro ⟨h2, h3, h4⟩
  exact ⟨h2, h3, by rw [← h1 _ (by omega)]; exact h4⟩
 ·rintro ⟨h2, h3, h4⟩
  exact ⟨h2, h3, by rw [h1 _ (by omega)]; exact h4⟩
theorem st_sameA {a b : Bg} (h : sameB a b = true) (d : En) : stB a d = stB b d := by
 unfold stB
 rw [has_sameA h d, (sameB_iff.1 h).2]
theorem le_leftA {a b c : Bg} (h : sameB a b = true) (h1 : leB b c) : leB a c := ⟨fun i hi => by rw [(sameB_iff.1 h).1 i hi]; exact h1.1 i hi, fun d => by rw [st_sameA h d]; exact h1.2 d⟩
theorem le_rightA {a b c : Bg} (h1 : leB a b) (h : sameB b c = true) : leB a c := ⟨fun i hi => by rw [← (sameB_iff.1 h).1 i hi]; exact h1.1 i hi, fun d => by rw [← st_sameA h d]; exact h1.2 d⟩
theorem dat_sameA {dat : En → ByteArray} {a b : Bg} (h : sameB a b = true) (hb : DatB dat b) : DatB dat a := fun x hx => hb x (by rw [← (sameB_iff.1 h).2]; exact hx)
theorem put_okA {b c : Bg} {kn : Nat → Int} {d : En} {t : ByteArray} (hb : MayB b) (h : putBR b kn d t = (c, 0)) : MayB c ∧ leB b c ∧ ∀ dat : En → ByteArray, DatB dat b → t = dat d → DatB dat c := by
 unfold putBR at h
 split at h
 ·rename_i hc
  obtain ⟨_, h2, h3, h4, h5⟩ := hc
  split at h
  ·rename_i hl
   obtain rfl := (Prod.mk.inj h).1
   exact ⟨may_put hb h2 h3 h4 h5 hl, leB_put hb.toPre h3 h4, fun dat hd ht => dat_put hd ht⟩
  ·exact absurd (Prod.mk.inj h).2 (by decide)
 ·exact absurd (Prod.mk.inj h).2 (by decide)
structure Hi (Hs : ByteArray → Bg → Prop) (S : Vt) : Prop where
 now : ∀ k, Hs k (bagV S k)
 zero : ∀ k, Hs k noB
 may : ∀ k x, Hs k x → MayB x
 dat : ∀ k x, Hs k x → DatB datA x
 le : ∀ k x, Hs k x → leB x (bagV S k)
 tot : ∀ k x y, Hs k x → Hs k y → leB x y ∨ leB y x
theorem Hi.start : Hi (fun _ x => x = noB) (playD (newL 400).l) where
 now _ := rfl
 zero _ := rfl
 may _ x h := by rw [h]; exact may_noB
 dat _ x h := by
  rw [h]
  exact fun y hy => by cases hy
 le _ x h := by rw [h]; exact leB_refl _
 tot _ x y h1 h2 := by rw [h1, h2]; exact .inl (leB_refl _)
structure Tm (Hs : ByteArray → Bg → Prop) (Y : Vl2) (i : Nat) : Prop where
 kept : Kept Y
 room : Y.2.room = 3000
 len : Y.2.l.length ≤ i
 dots : Y.1.dots = 0
 is : ∀ k, ∃ x, Hs k x ∧ sameB (bagV Y.1 k) x = true
theorem Tm.start : Tm (fun _ x => x = noB) (playD (newL 3000).l, newL 3000) 0 := ⟨Kept.open (LgOk.new 3000), rfl, Nat.le_refl _, rfl, fun _ => ⟨noB, rfl, sameB_self _⟩⟩
theorem Tm.more {Hs : ByteArray → Bg → Prop} {Y : Vl2} {i : Nat} (h : Tm Hs Y i) : Tm Hs Y (i + 1) := ⟨h.kept, h.room, Nat.le_succ_of_le h.len, h.dots, h.is⟩
theorem Tm.bl {Hs : ByteArray → Bg → Prop} {Y : Vl2} {i : Nat} (h : Tm Hs Y i) : Y.1.b.length ≤ i := Nat.le_trans h.kept.len h.len
theorem Tm.dat {Hs : ByteArray → Bg → Prop} {Y : Vl2} {i : Nat} {S : Vt} (h : Tm Hs Y i) (hH : Hi Hs S) (k : ByteArray) : DatB datA (bagV Y.1 k) := by
 obtain ⟨x, h1, h2⟩ := h.is k
 exact dat_sameA h2 (hH.dat k x h1)
theorem Tm.merge {Hs : ByteArray → Bg → Prop} {Y : Vl2} {i : Nat} {S : Vt} (h : Tm Hs Y i) (hH : Hi Hs S) (hi : i < 200) {k : ByteArray} {x : Bg} (hk : keyB k = true) (hx : Hs k x) : ∃ Z, mergeV Y k x = (Z, 0) ∧ Tm Hs Z (i + 1) ∧ (∀ q, leB (bagV Y.1 q) (bagV Z.1 q)) ∧ leB x (bagV Z.1 k) := by
 obtain ⟨y, hy, hs⟩ := h.is k
 have hm := bagV_may h.kept.ok k
 have hxm := hH.may k x hx
 have dx := hH.dat k x hx
 have dm := h.dat hH k
 have hf : ¬ fullV Y.1 k = true := by
  unfold fullV
  rw [decide_eq_false (by have := h.bl; omega), Bool.and_false]
  exact Bool.false_ne_true
 have hkx : keyB k = true ∧ mayB x = true := ⟨hk, mayB_iff.2 hxm⟩
 rcases hH.tot k x y hx hy with hle | hle
 ·have hle2 : leB x (bagV Y.1 k) := le_rightA hle (same_commA hs)
  obtain ⟨q1, _, _, _, q5⟩ := below_of hxm hm dx dm hle2
  refine ⟨Y, ?_, h.more, fun q => leB_refl _, hle2⟩
  unfold mergeV
  rw [if_pos hkx, if_neg hf, q1, if_pos rfl, if_pos q5]
 ·have hle2 : leB (bagV Y.1 k) x := le_leftA hs hle
  obtain ⟨_, q2, _, q4, _⟩ := below_of hm hxm dm dx hle2
  by_cases hb : belowB x (bagV Y.1 k) = true
  ·refine ⟨Y, ?_, h.more, fun q => leB_refl _, ?_⟩
   ·unfold mergeV
    rw [if_pos hkx, if_neg hf, q2, if_pos rfl, if_pos hb]
   ·unfold belowB at hb
    rw [q2, Bool.and_eq_true] at hb
    exact le_rightA (leB_refl x) (same_transA (same_commA q4) hb.2)
  ·have hjm : MayB (joinB x (bagV Y.1 k)) := by
    rcases join_of hxm hm q2 with ⟨_, _, q⟩ | ⟨q, _⟩
    ·exact q
    ·cases q
   have hw := writeV_ok (X := Y) (d := kbD Y.1.dots k (joinB x (bagV Y.1 k))) (bag_mayD hk hjm (by rw [h.dots]; decide)) (by rw [h.room]; have := h.len; omega)
   have he : mergeV Y k x = ((countD Y.1 (kbD Y.1.dots k (joinB x (bagV Y.1 k))), ⟨Y.2.room, Y.2.sure, Y.2.l ++ [kbD Y.1.dots k (joinB x (bagV Y.1 k))]⟩), 0) := by
    unfold mergeV
    rw [if_pos hkx, if_neg hf, q2, if_pos rfl, if_neg hb, hw]
   have hK := h.kept.merge k x
   rw [he] at hK
   have hbag : ∀ q, bagV (countD Y.1 (kbD Y.1.dots k (joinB x (bagV Y.1 k)))) q = if q = k then joinB x (bagV Y.1 k) else bagV Y.1 q := fun q => bag_count (d := kbD Y.1.dots k (joinB x (bagV Y.1 k))) rfl q
   refine ⟨_, he, ⟨hK, h.room, ?_, ?_, fun q => ?_⟩, fun q => ?_, ?_⟩
   ·show (Y.2.l ++ [_]).length ≤ i + 1
    rw [List.length_append]
    exact Nat.succ_le_succ h.len
   ·show (countD Y.1 (kbD Y.1.dots k (joinB x (bagV Y.1 k)))).dots = 0
    rw [countD_3 (d := kbD Y.1.dots k (joinB x (bagV Y.1 k))) rfl]
    show max Y.1.dots Y.1.dots = 0
    rw [h.dots]
    rfl
   ·show ∃ z, Hs q z ∧ sameB (bagV (countD Y.1 _) q) z = true
    rw [hbag]
    by_cases e : q = k
    ·rw [if_pos e, e]
     exact ⟨x, hx, q4⟩
    ·rw [if_neg e]
     exact h.is q
   ·show leB (bagV Y.1 q) (bagV (countD Y.1 _) q)
    rw [hbag]
    by_cases e : q = k
    ·rw [if_pos e, e]
     exact le_rightA hle2 (same_commA q4)
    ·rw [if_neg e]
     exact leB_refl _
   ·show leB x (bagV (countD Y.1 _) k)
    rw [hbag, if_pos rfl]
    exact le_rightA (leB_refl x) (same_commA q4)
theorem next_cov {F : Fd} {ks : List ByteArray} (hs : ks.Pairwise ltK) {q : ByteArray} (hq : q ∈ ks) (h : q ∈ F.due ∨ newK F q = true) : q ∈ (nextF F ks).1.due ∨ newK (nextF F ks).1 q = true ∨ (nextF F ks).2 = some q := by
 rcases next_ways F ks with ⟨x, r, h1, h2⟩ | ⟨x, h1, h3, h2⟩ | ⟨h1, h3, h2⟩
 ·rw [h2]
  rcases h with h | h
  ·obtain ⟨_, _, a, h4, h5⟩ := popD_some h1
   rw [h4] at h
   rcases List.mem_append.1 h with h | h
   ·exact absurd hq (h5 q h)
   ·rcases List.mem_cons.1 h with h | h
    ·exact .inr (.inr (by rw [h]))
    ·exact .inl h
  ·exact .inr (.inl h)
 ·rw [h2]
  rcases h with h | h
  ·exact absurd hq ((popD_none h1).2 q h)
  ·obtain ⟨_, a, b, h5, h6⟩ := List.find?_eq_some_iff_append.1 h3
   rw [h5] at hs hq
   rcases List.mem_append.1 hq with hq | hq
   ·have := h6 q hq
    rw [h] at this
    cases this
   ·rcases List.mem_cons.1 hq with hq | hq
    ·exact .inr (.inr (by rw [hq]))
    ·have h7 := (List.pairwise_cons.1 (List.pairwise_append.1 hs).2.1).1 q hq
     refine .inr (.inl ?_)
     show (!true || decide (ltK x q)) = true
     rw [decide_eq_true h7]
     rfl
 ·rw [h2]
  rcases h with h | h
  ·exact absurd hq ((popD_none h1).2 q h)
  ·exact absurd h (List.find?_eq_none.1 h3 q hq)
def Cov (S : Vt) (ks : List ByteArray) (D : ByteArray → Prop) (G : Gv) : Prop := ∀ q ∈ ks, (q ∈ G.F.due ∨ newK G.F q = true) ∨ (∃ o ∈ G.out, o.key = q ∧ o.b = bagV S q) ∨ D q
theorem Cov.aged {S : Vt} {ks : List ByteArray} {D : ByteArray → Prop} {G : Gv} (h : Cov S ks D G) : Cov S ks D (agedG G) := fun q hq => by
 rcases h q hq with h | ⟨o, ho, h1, h2⟩ | h
 ·exact .inl h
 ·refine .inr (.inl ⟨againO (G.ticks + 1) o, List.mem_map.2 ⟨o, ho, rfl⟩, ?_, ?_⟩)
  ·rw [(again_seq _ _).2.1]; exact h1
  ·rw [(again_seq _ _).2.2]; exact h2
 ·exact .inr (.inr h)
theorem Cov.fill {S : Vt} {D : ByteArray → Prop} : ∀ (n : Nat) {G : Gv}, (keysV S G.F.part).Pairwise ltK → Cov S (keysV S G.F.part) D G → Cov S (keysV S G.F.part) D (fillG S n G).1
 | 0, _, _, h => h
 | n + 1, G, hs, h => by
  have hp := next_part G.F (keysV S G.F.part)
  have hc := fun q hq h1 => next_cov (F := G.F) hs (q := q) hq h1
  obtain ⟨F, o, hn⟩ : ∃ F o, nextF G.F (keysV S G.F.part) = (F, o) := ⟨_, _, rfl⟩
  unfold fillG
  rw [hn] at hp hc ⊢
  dsimp only at hp hc
  cases o with
  | some k =>
   have ih := Cov.fill (S := S) (D := D) n (G := ⟨G.self, G.part, G.epoch, G.dst, F, G.seq + 1, G.ticks, G.ends, G.out ++ [⟨G.seq + 1, k, bagV S k, G.ticks⟩]⟩) (by show (keysV S F.part).Pairwise ltK; rw [hp]; exact hs)
   dsimp only at ih
   rw [hp] at ih
   refine ih fun q hq => ?_
   rcases h q hq with h1 | ⟨o, ho, h1, h2⟩ | h1
   ·rcases hc q hq h1 with h2 | h2 | h2
    ·exact .inl (.inl h2)
    ·exact .inl (.inr h2)
    ·obtain rfl := Option.some.inj h2
     exact .inr (.inl ⟨_, List.mem_append.2 (.inr (List.mem_singleton.2 rfl)), rfl, rfl⟩)
   ·exact .inr (.inl ⟨o, List.mem_append.2 (.inl ho), h1, h2⟩)
   ·exact .inr (.inr h1)
  | none =>
   intro q hq
   rcases h q hq with h1 | h1 | h1
   ·rcases hc q hq h1 with h2 | h2 | h2
    ·exact .inl (.inl h2)
    ·exact .inl (.inr h2)
    ·cases h2
   ·exact .inr (.inl h1)
   ·exact .inr (.inr h1)
theorem Cov.over {S : Vt} {D : ByteArray → Prop} {G : Gv} (h : Cov S (keysV S G.F.part) D G) (ho : overG G S = true) : ∀ q ∈ keysV S G.F.part, D q := fun q hq => by
 unfold overG at ho
 rw [Bool.and_eq_true] at ho
 have h0 : G.out = [] := List.isEmpty_iff.1 ho.1
 have h1 : (nextF G.F (keysV S G.F.part)).2 = none := Option.isNone_iff_eq_none.1 ho.2
 rcases h q hq with h2 | ⟨o, h2, _⟩ | h2
 ·rcases next_ways G.F (keysV S G.F.part) with ⟨x, r, _, h4⟩ | ⟨x, _, _, h4⟩ | ⟨h3, h5, h4⟩
  ·rw [h4] at h1; cases h1
  ·rw [h4] at h1; cases h1
  ·rcases h2 with h2 | h2
   ·exact absurd hq ((popD_none h3).2 q h2)
   ·exact absurd h2 (List.find?_eq_none.1 h5 q hq)
 ·rw [h0] at h2; cases h2
 ·exact h2
theorem Cov.imp {S : Vt} {ks : List ByteArray} {D D' : ByteArray → Prop} {G : Gv} (h : Cov S ks D G) (hd : ∀ q, D q → D' q) : Cov S ks D' G := fun q hq => (h q hq).imp id (.imp id (hd q))
theorem next_due (F : Fd) (ks : List ByteArray) : (nextF F ks).1.due.length ≤ F.due.length := by
 have h := (popD_sub ks F.due).length_le
 rcases next_ways F ks with ⟨x, r, h1, h2⟩ | ⟨x, _, _, h2⟩ | ⟨_, _, h2⟩
 ·rw [h2]
  rw [h1] at h
  exact h
 ·rw [h2]; exact Nat.zero_le _
 ·rw [h2]; exact Nat.zero_le _
theorem fill_due (S : Vt) : ∀ (n : Nat) (G : Gv), (fillG S n G).1.F.due.length ≤ G.F.due.length
 | 0, _ => Nat.le_refl _
 | n + 1, G => by
  unfold fillG
  have h1 := next_due G.F (keysV S G.F.part)
  obtain ⟨F, o, hn⟩ : ∃ F o, nextF G.F (keysV S G.F.part) = (F, o) := ⟨_, _, rfl⟩
  rw [hn] at h1 ⊢
  cases o with
  | none => exact h1
  | some k => exact Nat.le_trans (fill_due S n _) h1
theorem tick_due (G : Gv) (S : Vt) : (tickG G S).1.F.due.length ≤ G.F.due.length := by
 have h : (fillT G S).1.F.due.length ≤ G.F.due.length := fill_due S _ (agedG G)
 unfold tickG
 split
 ·exact h
 ·exact h
theorem insK_lenA (k : ByteArray) : ∀ l : List ByteArray, (insK k l).length ≤ l.length + 1
 | [] => Nat.le_refl _
 | x :: l => by
  unfold insK
  split
  ·exact Nat.le_succ _
  ·split
   ·exact Nat.le_refl _
   ·rw [List.length_cons, List.length_cons]
    exact Nat.succ_le_succ (insK_lenA k l)
theorem back_due (F : Fd) (k : ByteArray) : (backF F k).due.length ≤ F.due.length + 1 := by
 unfold backF
 split
 ·exact insK_lenA k _
 ·exact Nat.le_succ _
structure Al (P : Int) (Hs : ByteArray → Bg → Prop) (X Y : Vl2) (G : Gv) (ml bk : List Ms) (i : Nat) : Prop where
 kept : Kept X
 len : X.2.l.length ≤ i
 hi : Hi Hs X.1
 tm : Tm Hs Y i
 ok : GvOk G
 is : G.self = 0 ∧ G.part = P ∧ G.epoch = 1 ∧ G.dst = 1
 tks : G.ticks ≤ i
 due : G.F.due.length ≤ i
 out : ∀ o ∈ G.out, Hs o.key o.b
 cov : Cov X.1 (keysV X.1 P) (fun q => leB (bagV X.1 q) (bagV Y.1 q)) G
 mail : ∀ m ∈ ml, m.b.v.length ≤ 32 ∧ (m.kind = 5 → keyB m.key = true ∧ Hs m.key m.b)
 back : ∀ m ∈ bk, m.b.v.length ≤ 32 ∧ (m.kind = 6 → leB m.b (bagV Y.1 m.key))
section
variable {P : Int} {Hs : ByteArray → Bg → Prop} {X Y : Vl2} {G : Gv} {ml bk : List Ms} {i : Nat}
theorem Al.start (hP : 0 ≤ P ∧ P < 16) : Al P (fun _ x => x = noB) (playD (newL 400).l, newL 400) (playD (newL 3000).l, newL 3000) (newG 0 P 1 1) [] [] 0 := ⟨Kept.open (LgOk.new 400), Nat.le_refl _, Hi.start, Tm.start, GvOk.new ⟨by decide, by decide, by decide, hP, by decide⟩, ⟨rfl, rfl, rfl, rfl⟩, Int.le_refl 0, Nat.le_refl _, (fun o h => by cases h), (fun q hq => by cases hq), (fun m h => by cases h), (fun m h => by cases h)⟩
theorem Al.more (h : Al P Hs X Y G ml bk i) : Al P Hs X Y G ml bk (i + 1) := ⟨h.kept, Nat.le_succ_of_le h.len, h.hi, h.tm.more, h.ok, h.is, by have := h.tks; omega, Nat.le_succ_of_le h.due, h.out, h.cov, h.mail, h.back⟩
theorem Al.bl (h : Al P Hs X Y G ml bk i) : X.1.b.length ≤ i := Nat.le_trans h.kept.len h.len
theorem Al.fpart (h : Al P Hs X Y G ml bk i) : G.F.part = P := h.ok.part.trans h.is.2.1
theorem fill_has {Hs : ByteArray → Bg → Prop} {S : Vt} (hS : VtOk S) (hH : Hi Hs S) (n : Nat) (G : Gv) : ∀ o ∈ (fillG S n G).2, keyB o.key = true ∧ Hs o.key o.b ∧ o.b.v.length ≤ 32 := fun o ho => by
 obtain ⟨h1, h2⟩ := fill_bag S n G o ho
 obtain ⟨⟨x, hx⟩, _⟩ := mem_keysV.1 h2
 refine ⟨hS.key _ hx, by rw [h1]; exact hH.now _, by rw [h1]; exact bagV_len hS _⟩
theorem Al.tick (h : Al P Hs X Y G ml bk i) : ∃ G1 ms, tickG G X.1 = (G1, ms) ∧ Al P Hs X Y G1 (ml ++ ms) bk (i + 1) ∧ ms.length ≤ 9 := by
 obtain ⟨s1, s2, s3, s4⟩ := fill_same X.1 (4 - G.out.length) (agedG G)
 have hks := keysV_srt h.kept.ok.srt P
 have hfp : (agedG G).F.part = P := h.fpart
 have hcov : Cov X.1 (keysV X.1 P) (fun q => leB (bagV X.1 q) (bagV Y.1 q)) (fillT G X.1).1 := by
  have := Cov.fill (S := X.1) (D := fun q => leB (bagV X.1 q) (bagV Y.1 q)) (4 - G.out.length) (G := agedG G) (by rw [hfp]; exact hks) (by rw [hfp]; exact h.cov.aged)
  rw [hfp] at this
  exact this
 have hnew := fill_has h.kept.ok h.hi (4 - G.out.length) (agedG G)
 have hok := h.ok.tick X.1
 have htk := tick_ticks G X.1
 have hdu := tick_due G X.1
 have hold : ∀ o ∈ G.out, keyB o.key = true → Hs o.key o.b := fun o ho _ => h.out o ho
 have hout : ∀ o ∈ (fillT G X.1).1.out, Hs o.key o.b := fun o ho => by
  have e : (fillT G X.1).1.out = (agedG G).out ++ (fillT G X.1).2 := s2
  rw [e] at ho
  rcases List.mem_append.1 ho with ho | ho
  ·obtain ⟨x, hx, rfl⟩ := List.mem_map.1 ho
   rw [(again_seq _ _).2.1, (again_seq _ _).2.2]
   exact h.out x hx
  ·exact (hnew o ho).2.1
 have htl : ∀ m ∈ tellL G X.1, m.b.v.length ≤ 32 ∧ (m.kind = 5 → keyB m.key = true ∧ Hs m.key m.b) := fun m hm => by
  rcases List.mem_append.1 hm with hm | hm
  ·obtain ⟨o, ho, rfl⟩ := List.mem_map.1 hm
   have ho := (List.mem_filter.1 ho).1
   have h1 := h.out o ho
   have h2 := h.ok.key o ho
   have hP := h.ok.may.2.2.2.1
   have hkb : keyB o.key = true := by
    cases hk : keyB o.key with
    | true => rfl
    | false =>
     have := ofK_no hk
     omega
   exact ⟨(h.hi.may _ _ h1).len, fun _ => ⟨hkb, h1⟩⟩
  ·obtain ⟨o, ho, rfl⟩ := List.mem_map.1 hm
   have := hnew o ho
   exact ⟨this.2.2, fun _ => ⟨this.1, this.2.1⟩⟩
 have hlen : (tellL G X.1).length ≤ 8 := by
  unfold tellL
  rw [List.length_append, List.length_map, List.length_map]
  have e1 : (G.out.filter (oldO (G.ticks + 1))).length ≤ G.out.length := List.length_filter_le _ _
  have e2 : (fillT G X.1).1.out = (agedG G).out ++ (fillT G X.1).2 := s2
  have e3 := (h.ok.filled X.1).len
  rw [e2, List.length_append] at e3
  have e4 := h.ok.len
  omega
 by_cases hov : overG (fillT G X.1).1 X.1 = true
 ·have ht := tick_end hov
  rw [ht] at hok htk hdu
  refine ⟨_, _, ht, ⟨h.kept, Nat.le_succ_of_le h.len, h.hi, h.tm.more, hok, ⟨s1.self.trans h.is.1, s1.part.trans h.is.2.1, s1.epoch.trans h.is.2.2.1, s1.dst.trans h.is.2.2.2⟩, ?_, ?_, hout, hcov, fun m hm => ?_, h.back⟩, ?_⟩
  ·have h1 := h.tks
   dsimp only at htk
   rw [htk]
   omega
  ·have h1 := h.due
   dsimp only at hdu
   omega
  ·rcases List.mem_append.1 hm with hm | hm
   ·exact h.mail m hm
   ·rcases List.mem_append.1 hm with hm | hm
    ·exact htl m hm
    ·rw [List.mem_singleton.1 hm]
     exact ⟨Nat.zero_le _, fun e => absurd e (show ¬ (7 : Int) = 5 by decide)⟩
  ·rw [List.length_append, List.length_singleton]
   omega
 ·have ht := tick_go (Bool.eq_false_iff.2 hov)
  rw [ht] at hok htk hdu
  refine ⟨_, _, ht, ⟨h.kept, Nat.le_succ_of_le h.len, h.hi, h.tm.more, hok, ⟨s1.self.trans h.is.1, s1.part.trans h.is.2.1, s1.epoch.trans h.is.2.2.1, s1.dst.trans h.is.2.2.2⟩, ?_, ?_, hout, hcov, fun m hm => ?_, h.back⟩, by omega⟩
  ·have h1 := h.tks
   dsimp only at htk
   rw [htk]
   omega
  ·have h1 := h.due
   dsimp only at hdu
   omega
  ·rcases List.mem_append.1 hm with hm | hm
   ·exact h.mail m hm
   ·exact htl m hm
theorem Al.merge (h : Al P Hs X Y G ml bk i) (hi : i < 200) {m : Ms} (hm : m ∈ ml) (hk : m.kind = 5) : ∃ Z, mergeV Y m.key m.b = (Z, 0) ∧ Al P Hs X Z G ml (bk ++ [ansM m]) (i + 1) := by
 obtain ⟨h1, h2⟩ := h.mail m hm
 obtain ⟨hkb, hx⟩ := h2 hk
 obtain ⟨Z, h3, h4, h5, h6⟩ := h.tm.merge h.hi hi hkb hx
 refine ⟨Z, h3, h.kept, Nat.le_succ_of_le h.len, h.hi, h4, h.ok, h.is, by have := h.tks; omega, Nat.le_succ_of_le h.due, h.out, h.cov.imp fun q hq => leB_trans hq (h5 q), h.mail, fun x hx => ?_⟩
 rcases List.mem_append.1 hx with hx | hx
 ·have := h.back x hx
  exact ⟨this.1, fun e => leB_trans (this.2 e) (h5 _)⟩
 ·rw [List.mem_singleton.1 hx]
  exact ⟨h1, fun _ => h6⟩
theorem Al.answer (h : Al P Hs X Y G ml bk i) {x : Ms} (hk : x.kind = 8) (hx : x.b.v.length ≤ 32) : Al P Hs X Y G ml (bk ++ [x]) (i + 1) := by
 have h1 := h.more
 refine ⟨h1.kept, h1.len, h1.hi, h1.tm, h1.ok, h1.is, h1.tks, h1.due, h1.out, h1.cov, h1.mail, fun y hy => ?_⟩
 rcases List.mem_append.1 hy with hy | hy
 ·exact h.back y hy
 ·rw [List.mem_singleton.1 hy]
  exact ⟨hx, fun e => by rw [hk] at e; exact absurd e (by decide)⟩
theorem Al.got (h : Al P Hs X Y G ml bk i) {m : Ms} (hm : m ∈ bk) (hk : m.kind = 6) : Al P Hs X Y (gotG G m) ml bk (i + 1) := by
 have h1 := h.more
 have hle := (h.back m hm).2 hk
 have hok := h.ok.got m
 cases hb : gotB G m with
 | false =>
  rw [got_no hb]
  exact h1
 | true =>
  have he : gotG G m = ⟨G.self, G.part, G.epoch, G.dst, G.F, G.seq, G.ticks, G.ends, G.out.filter fun o => decide (o.seq ≠ m.seq)⟩ := if_pos hb
  rw [he] at hok ⊢
  refine ⟨h1.kept, h1.len, h1.hi, h1.tm, hok, h1.is, h1.tks, h1.due, fun o ho => h.out o (List.mem_filter.1 ho).1, fun q hq => ?_, h1.mail, h1.back⟩
  rcases h.cov q hq with h2 | ⟨o, ho, h2, h3⟩ | h2
  ·exact .inl h2
  ·by_cases hs : o.seq = m.seq
   ·unfold gotB at hb
    rw [Bool.and_eq_true] at hb
    obtain ⟨o2, ho2, hi2⟩ := List.any_eq_true.1 hb.2
    unfold isO at hi2
    rw [Bool.and_eq_true, Bool.and_eq_true] at hi2
    have e1 : o2.seq = m.seq := of_decide_eq_true hi2.1
    have e2 : o2.key = m.key := of_decide_eq_true hi2.2.1
    have eo : o2 = o := by
     obtain ⟨a, ha⟩ := List.mem_iff_getElem?.1 ho
     obtain ⟨b, hb⟩ := List.mem_iff_getElem?.1 ho2
     obtain ⟨ha1, ha2⟩ := List.getElem?_eq_some_iff.1 ha
     obtain ⟨hb1, hb2⟩ := List.getElem?_eq_some_iff.1 hb
     have hp := List.pairwise_iff_getElem.1 h.ok.srt
     rcases Nat.lt_trichotomy a b with hab | hab | hab
     ·have := hp a b ha1 hb1 hab
      rw [ha2, hb2] at this
      omega
     ·subst hab
      rw [← ha2, ← hb2]
     ·have := hp b a hb1 ha1 hab
      rw [ha2, hb2] at this
      omega
    subst eo
    refine .inr (.inr ?_)
    show leB (bagV X.1 q) (bagV Y.1 q)
    rw [← h3, ← h2, e2]
    exact le_leftA hi2.2.2 hle
   ·exact .inr (.inl ⟨o, List.mem_filter.2 ⟨ho, decide_eq_true hs⟩, h2, h3⟩)
  ·exact .inr (.inr h2)
theorem Al.ended (h : Al P Hs X Y G ml bk i) {m : Ms} (he : endedG G m X.1 = true) {q : ByteArray} (hq : q ∈ keysV X.1 P) : belowB (bagV X.1 q) (bagV Y.1 q) = true := by
 unfold endedG at he
 rw [Bool.and_eq_true, Bool.and_eq_true] at he
 have h1 := h.cov
 have h2 := hq
 rw [← h.fpart] at h1 h2
 have hle := h1.over he.2.2 q h2
 exact (below_of (bagV_may h.kept.ok q) (bagV_may h.tm.kept.ok q) (h.hi.dat q _ (h.hi.now q)) (h.tm.dat h.hi q) hle).2.2.2.2
theorem Al.put (h : Al P Hs X Y G ml bk i) {k : ByteArray} {Z : Vl2} {d : En} (hp : putV X 0 k (fun _ => 0) kVa = (Z, d, 0)) : ∃ Hs', Al P Hs' Z Y (wroteG G k) ml bk (i + 1) := by
 rcases putV_ways X 0 k (fun _ => 0) kVa with ⟨x, e, hm, hk, hpb, _, hr⟩ | ⟨e, he, h1⟩
 ·have hZ : Z = (countD X.1 (kbD (X.1.dots + 1) k x), ⟨X.2.room, X.2.sure, X.2.l ++ [kbD (X.1.dots + 1) k x]⟩) := by
   rw [e] at hp
   exact (congrArg (fun z => z.1) hp).symm
  have hZk : Kept Z := by
   have := h.kept.put 0 k (fun _ => 0) kVa
   rw [hp] at this
   exact this
  obtain ⟨p1, p2, p3⟩ := put_okA (bagV_may h.kept.ok k) hpb
  have hbag : ∀ q, bagV Z.1 q = if q = k then x else bagV X.1 q := fun q => by
   rw [hZ]
   exact bag_count (d := kbD (X.1.dots + 1) k x) rfl q
  have hkeys : ∀ q, q ∈ keysV Z.1 P ↔ q ∈ keysV X.1 P ∨ (q = k ∧ ofK k = P) := fun q => by
   have hh : hasK Z.1 q = (hasK X.1 q || decide (q = k)) := by
    rw [hZ]
    exact hasK_put (d := kbD (X.1.dots + 1) k x) rfl q
   have a1 : ∀ {Z : Vl2} (_ : Kept Z), q ∈ keysV Z.1 P ↔ hasK Z.1 q = true ∧ ofK q = P := fun hZ => by rw [mem_keysV, hasK_iff hZ.ok.srt]
   rw [a1 hZk, a1 h.kept, hh, Bool.or_eq_true, decide_eq_true_eq]
   constructor
   ·rintro ⟨h1 | h1, h2⟩
    ·exact .inl ⟨h1, h2⟩
    ·exact .inr ⟨h1, h1 ▸ h2⟩
   ·rintro (⟨h1, h2⟩ | ⟨h1, h2⟩)
    ·exact ⟨.inl h1, h2⟩
    ·exact ⟨.inr h1, h1 ▸ h2⟩
  refine ⟨fun q y => Hs q y ∨ (q = k ∧ y = x), hZk, ?_, ⟨fun q => ?_, fun q => .inl (h.hi.zero q), fun q y hy => ?_, fun q y hy => ?_, fun q y hy => ?_, fun q y z hy hz => ?_⟩, ⟨h.tm.kept, h.tm.room, Nat.le_succ_of_le h.tm.len, h.tm.dots, fun q => ?_⟩, h.ok.wrote k, h.is, by show G.ticks ≤ _; have := h.tks; omega, ?_, fun o ho => .inl (h.out o ho), fun q hq => ?_, fun m hm => ?_, h.back⟩
  ·rw [hZ]
   show (X.2.l ++ [_]).length ≤ i + 1
   rw [List.length_append]
   exact Nat.succ_le_succ h.len
  ·rw [hbag]
   split
   ·rename_i e
    exact .inr ⟨e, rfl⟩
   ·exact .inl (h.hi.now q)
  ·rcases hy with hy | ⟨_, rfl⟩
   ·exact h.hi.may q y hy
   ·exact p1
  ·rcases hy with hy | ⟨_, rfl⟩
   ·exact h.hi.dat q y hy
   ·exact p3 datA (h.hi.dat k _ (h.hi.now k)) rfl
  ·rw [hbag]
   split
   ·rename_i e
    rcases hy with hy | ⟨_, rfl⟩
    ·rw [e] at hy
     exact leB_trans (h.hi.le k y hy) p2
    ·exact leB_refl _
   ·rename_i e
    rcases hy with hy | ⟨e2, _⟩
    ·exact h.hi.le q y hy
    ·exact absurd e2 e
  ·rcases hy with hy | ⟨e1, rfl⟩
   ·rcases hz with hz | ⟨e2, rfl⟩
    ·exact h.hi.tot q y z hy hz
    ·rw [e2] at hy
     exact .inl (leB_trans (h.hi.le k y hy) p2)
   ·rcases hz with hz | ⟨e2, rfl⟩
    ·rw [e1] at hz
     exact .inr (leB_trans (h.hi.le k z hz) p2)
    ·exact .inl (leB_refl _)
  ·obtain ⟨y, h1, h2⟩ := h.tm.is q
   exact ⟨y, .inl h1, h2⟩
  ·show (backF G.F k).due.length ≤ _
   have h1 := back_due G.F k
   have h2 := h.due
   omega
  ·have hbn : ∀ q, newK (backF G.F k) q = newK G.F q := fun q => by
    unfold backF
    split <;> rfl
   have hbd : ∀ q, q ∈ G.F.due → q ∈ (backF G.F k).due := fun q hq => by
    unfold backF
    split
    ·exact mem_insK.2 (.inr hq)
    ·exact hq
   by_cases e : q = k
   ·left
    show q ∈ (backF G.F k).due ∨ newK (backF G.F k) q = true
    rw [hbn]
    cases hnq : newK G.F q with
    | true => exact .inr rfl
    | false =>
     left
     have hpart : ofK k = P := by
      rcases (hkeys q).1 hq with h1 | h1
      ·rw [← e]
       exact (mem_keysV.1 h1).2
      ·exact h1.2
     have hb : backB G.F k = true := by
      unfold backB
      rw [decide_eq_true (hpart.trans h.fpart.symm), Bool.true_and, ← e]
      unfold newK at hnq
      cases hany : G.F.any with
      | false =>
       rw [hany] at hnq
       cases hnq
      | true =>
       rw [hany] at hnq
       simpa using hnq
     unfold backF
     rw [if_pos hb, e]
     exact mem_insK.2 (.inl rfl)
   ·rcases (hkeys q).1 hq with h1 | h1
    ·rw [hbag, if_neg e]
     rcases h.cov q h1 with (h2 | h2) | h2 | h2
     ·exact .inl (.inl (hbd q h2))
     ·refine .inl (.inr ?_)
      show newK (backF G.F k) q = true
      rw [hbn]
      exact h2
     ·exact .inr (.inl h2)
     ·refine .inr (.inr ?_)
      show leB (bagV Z.1 q) (bagV Y.1 q)
      rw [hbag, if_neg e]
      exact h2
    ·exact absurd h1.1 e
  ·have := h.mail m hm
   exact ⟨this.1, fun e => ⟨(this.2 e).1, .inl (this.2 e).2⟩⟩
 ·rw [h1] at hp
  exact absurd (congrArg (fun z => z.2.2) hp) he
end
end Go.Proofs.YtcchkkdbagpgjaaGreat
