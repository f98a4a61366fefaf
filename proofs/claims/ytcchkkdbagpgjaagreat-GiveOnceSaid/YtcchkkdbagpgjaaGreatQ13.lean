/- Q13: Q05, GvM. -/
import Derived.Test.YtcchkkdbagpgjaaGreatPB
import Derived.Test.YtcchkkdbagpgjaaGreatBgV
import Derived.Test.YtcchkkdbagpgjaaGreatQ12
import Derived.Laws.Cover1
namespace Go.Proofs.YtcchkkdbagpgjaaGreat
open Go Go.RowKit
theorem sameNow_str (a b : ByteArray) : Instr.sameNow .string (.string a) (.string b) = some (decide (a = b)) := by
 show some (a == b) = _
 rw [beq_toListBytes, bytes_beq]
theorem findNow_str {α : Type} (val : α → Value) (k : ByteArray) : ∀ (l : List (ByteArray × α × Nat)) (i : Nat), Instr.findNow .string (.string k) (l.map fun e => { key := .string e.1, val := val e.2.1, born := e.2.2 }) i = some (findE k val l i)
 | [], _ => rfl
 | e :: l, i => by
  rw [List.map_cons]
  unfold Instr.findNow findE
  rw [sameNow_str]
  by_cases h : k = e.1
  ·rw [decide_eq_true h, if_pos h]
  ·rw [decide_eq_false h, if_neg h]
   exact findNow_str val k l (i + 1)
def strK : KeyK Tryz.prog ByteArray where
 kt := 9
 key := .string
 check b k W := by
  unfold Instr.checkKey
  simp only [Sem.run_bind, run_underlying Tryz.underlying9, Result.andThen_ok, Sem.run_pure]
 find val k l W := by
  unfold Instr.findKey
  simp only [Sem.run_bind, run_underlying Tryz.underlying9, Result.andThen_ok, findNow_str, Sem.run_pure]
 stays k := by
  show (k == k) = true
  rw [beq_toListBytes]
  simp
end Go.Proofs.YtcchkkdbagpgjaaGreat
namespace Go.Proofs.YtcchkkdbagpgjaaGreat
open Go Go.RowKit
structure Hv where
 b : Bg
 p : Option Addr
 n : Nat
 c : Nat
def valB (x : Hv) : Value := bgV x.b.k (.slice x.p x.n x.c)
theorem Mem.nilL {L : List At} {H0 : Nat → Prop} {w W : World} (h : Mem L H0 w W) : Mem (listT [] :: L) H0 w W := SEnd.mono h fun _ h => starl_emp h
theorem reads_more {α : Type} {E : Elem Tryz.prog α} {A : At} {l : List At} {v : Value} {xs : List α} (h : Reads E (listT l) v xs) : Reads E (listT (A :: l)) v xs := fun W _ ⟨_, H2, _, h2, _, _⟩ => h W H2 h2
/- How many entries an iterator has not handed out. -/
theorem Mp.mem_put' {κ α : Type} [DecidableEq κ] {M : Mp κ α} (hM : MpOk M) {k : κ} {a : α} {e : κ × α × Nat} (h : e ∈ (M.put k a).es) : (e.1 ≠ k ∧ e ∈ M.es) ∨ (e.1 = k ∧ e.2.1 = a) := by
 have h1 : (M.put k a).get e.1 = some e.2.1 := getE_of (hM.put k a).keys h
 rw [Mp.get_put] at h1
 by_cases hk : e.1 = k
 ·rw [if_pos hk] at h1
  exact .inr ⟨hk, (Option.some.inj h1).symm⟩
 ·rcases Mp.mem_put h with h2 | h2
  ·exact .inl ⟨hk, h2⟩
  ·exact absurd h2.1 hk
theorem bag_count {S : Vt} {d : Dd} (h : d.kind = 3) (k : ByteArray) : bagV (countD S d) k = if k = d.key then d.b else bagV S k := by
 rw [countD_3 h]
 unfold bagV
 show ((getK (putK d.key d.b S.b) k).getD noB) = _
 by_cases e : k = d.key
 ·rw [e, getK_put, if_pos rfl]
  rfl
 ·rw [getK_other _ e, if_neg e]
theorem bagV_may {S : Vt} (h : VtOk S) (k : ByteArray) : MayB (bagV S k) := by
 unfold bagV
 cases hg : getK S.b k with
 | none => exact may_noB
 | some x => exact h.may _ (getK_mem hg)
theorem bagV_len {S : Vt} (h : VtOk S) (k : ByteArray) : (bagV S k).v.length ≤ 32 := (bagV_may h k).len
section
variable {X Y : Vl2} {M M' : Mp ByteArray Hv} {D : Mp En Int} {top : Int} {rs : List At} {i : Nat}
theorem keyB_size {k : ByteArray} (h : keyB k = true) : k.size ≤ 32 := by
 unfold keyB at h
 exact (of_decide_eq_true h).2
theorem put_no {X Y : Vl2} {node : Int} {k t : ByteArray} {known : Nat → Int} {d : En} {e : Int} (hp : putV X node k known t = (Y, d, e)) (he : e ≠ 0) : Y = X := by
 rcases putV_ways X node k known t with ⟨x, h1, _⟩ | ⟨y, _, h2⟩
 ·rw [hp] at h1
  exact absurd (congrArg (fun z => z.2.2) h1) he
 ·rw [hp] at h2
  exact congrArg (fun z => z.1) h2
end
end Go.Proofs.YtcchkkdbagpgjaaGreat
namespace Go.Proofs.YtcchkkdbagpgjaaGreat
open Go Go.RowKit
end Go.Proofs.YtcchkkdbagpgjaaGreat
namespace Go.Proofs.YtcchkkdbagpgjaaGreat
open Go
structure Ms where
 kind : Int
 frm : Int
 dst : Int
 seq : Int
 re : Int
 abt : Int
 part : Int
 epoch : Int
 key : ByteArray
 b : Bg
 r : Rg
def noMs : Ms := ⟨0, 0, 0, 0, 0, 0, 0, 0, ⟨#[]⟩, noB, noR⟩
structure Ot where
 seq : Int
 key : ByteArray
 b : Bg
 at_ : Int
structure Gv where
 self : Int
 part : Int
 epoch : Int
 dst : Int
 F : Fd
 seq : Int
 ticks : Int
 ends : Bool
 out : List Ot
def mayG (self part epoch dst : Int) : Prop := nodeE self = true ∧ nodeE dst = true ∧ self ≠ dst ∧ (0 ≤ part ∧ part < 16) ∧ (1 ≤ epoch ∧ epoch ≤ 1000000)
instance (a b c d : Int) : Decidable (mayG a b c d) := by unfold mayG; infer_instance
def newG (self part epoch dst : Int) : Gv := ⟨self, part, epoch, dst, newF part, 0, 0, false, []⟩
def giveM (G : Gv) (o : Ot) : Ms := ⟨5, G.self, G.dst, o.seq, 0, 0, G.part, G.epoch, o.key, o.b, noR⟩
def endM (G : Gv) : Ms := ⟨7, G.self, G.dst, 0, 0, 0, G.part, G.epoch, ⟨#[]⟩, noB, noR⟩
def oldO (t : Int) (o : Ot) : Bool := decide (o.at_ + 2 ≤ t)
def againO (t : Int) (o : Ot) : Ot := if oldO t o = true then ⟨o.seq, o.key, o.b, t⟩ else o
def fillG (S : Vt) : Nat → Gv → Gv × List Ot
 | 0, G => (G, [])
 | n + 1, G =>
  match nextF G.F (keysV S G.F.part) with
  | (F, some k) =>
   let o : Ot := ⟨G.seq + 1, k, bagV S k, G.ticks⟩
   ((fillG S n ⟨G.self, G.part, G.epoch, G.dst, F, G.seq + 1, G.ticks, G.ends, G.out ++ [o]⟩).1, o :: (fillG S n ⟨G.self, G.part, G.epoch, G.dst, F, G.seq + 1, G.ticks, G.ends, G.out ++ [o]⟩).2)
  | (F, none) => (⟨G.self, G.part, G.epoch, G.dst, F, G.seq, G.ticks, G.ends, G.out⟩, [])
def agedG (G : Gv) : Gv := ⟨G.self, G.part, G.epoch, G.dst, G.F, G.seq, G.ticks + 1, G.ends, G.out.map (againO (G.ticks + 1))⟩
def overG (G : Gv) (S : Vt) : Bool := G.out.isEmpty && overF G.F (keysV S G.F.part)
def fillT (G : Gv) (S : Vt) : Gv × List Ot := fillG S (4 - G.out.length) (agedG G)
def tellL (G : Gv) (S : Vt) : List Ms := (G.out.filter (oldO (G.ticks + 1))).map (giveM G) ++ (fillT G S).2.map (giveM G)
def endsG (G : Gv) : Gv := ⟨G.self, G.part, G.epoch, G.dst, G.F, G.seq, G.ticks, true, G.out⟩
def tickG (G : Gv) (S : Vt) : Gv × List Ms := if overG (fillT G S).1 S = true then (endsG (fillT G S).1, tellL G S ++ [endM G]) else ((fillT G S).1, tellL G S)
def wroteG (G : Gv) (k : ByteArray) : Gv := ⟨G.self, G.part, G.epoch, G.dst, backF G.F k, G.seq, G.ticks, if ofK k = G.part then false else G.ends, G.out⟩
def mineG (G : Gv) (kind : Int) (m : Ms) : Bool := decide (m.kind = kind ∧ m.frm = G.dst ∧ m.dst = G.self ∧ m.part = G.part ∧ m.epoch = G.epoch)
def isO (m : Ms) (o : Ot) : Bool := decide (o.seq = m.seq) && (decide (o.key = m.key) && sameB o.b m.b)
def gotB (G : Gv) (m : Ms) : Bool := mineG G 6 m && G.out.any (isO m)
def gotG (G : Gv) (m : Ms) : Gv := if gotB G m = true then ⟨G.self, G.part, G.epoch, G.dst, G.F, G.seq, G.ticks, G.ends, G.out.filter fun o => decide (o.seq ≠ m.seq)⟩ else G
def endedG (G : Gv) (m : Ms) (S : Vt) : Bool := mineG G 8 m && (G.ends && overG G S)
def seqsG (G : Gv) : List Int := G.out.map fun o => o.seq
structure GvOk (G : Gv) : Prop where
 fd : FdOk G.F
 part : G.F.part = G.part
 may : mayG G.self G.part G.epoch G.dst
 srt : G.out.Pairwise fun a b => a.seq < b.seq
 seq : ∀ o ∈ G.out, 1 ≤ o.seq ∧ o.seq ≤ G.seq
 key : ∀ o ∈ G.out, ofK o.key = G.part
 len : G.out.length ≤ 4
 nn : 0 ≤ G.seq ∧ 0 ≤ G.ticks
 few : G.seq ≤ 4 * G.ticks
 at_ : ∀ o ∈ G.out, 0 ≤ o.at_ ∧ o.at_ ≤ G.ticks
theorem GvOk.new {a b c d : Int} (h : mayG a b c d) : GvOk (newG a b c d) := ⟨FdOk.new h.2.2.2.1, rfl, h, List.Pairwise.nil, (fun o h => by cases h), (fun o h => by cases h), Nat.zero_le _, ⟨Int.le_refl _, Int.le_refl _⟩, Int.le_refl _, (fun o h => by cases h)⟩
theorem again_seq (t : Int) (o : Ot) : (againO t o).seq = o.seq ∧ (againO t o).key = o.key ∧ (againO t o).b = o.b := by
 unfold againO
 split <;> exact ⟨rfl, rfl, rfl⟩
theorem GvOk.aged {G : Gv} (h : GvOk G) : GvOk (agedG G) := by
 refine ⟨h.fd, h.part, h.may, ?_, fun o ho => ?_, fun o ho => ?_, by show (G.out.map _).length ≤ 4; rw [List.length_map]; exact h.len, ⟨h.nn.1, by show 0 ≤ G.ticks + 1; have := h.nn.2; omega⟩, by show G.seq ≤ 4 * (G.ticks + 1); have := h.few; omega, fun o ho => ?_⟩
 ·show (G.out.map (againO (G.ticks + 1))).Pairwise _
  exact List.pairwise_map.2 (h.srt.imp fun h => by rw [(again_seq _ _).1, (again_seq _ _).1]; exact h)
 ·obtain ⟨x, hx, rfl⟩ := List.mem_map.1 ho
  rw [(again_seq _ _).1]
  exact h.seq x hx
 ·obtain ⟨x, hx, rfl⟩ := List.mem_map.1 ho
  rw [(again_seq _ _).2.1]
  exact h.key x hx
 ·obtain ⟨x, hx, rfl⟩ := List.mem_map.1 ho
  have h1 := h.at_ x hx
  have h2 := h.nn.2
  show 0 ≤ (againO (G.ticks + 1) x).at_ ∧ (againO (G.ticks + 1) x).at_ ≤ G.ticks + 1
  unfold againO
  split
  ·show 0 ≤ G.ticks + 1 ∧ G.ticks + 1 ≤ G.ticks + 1
   omega
  ·omega
theorem key_of_next {F F2 : Fd} {S : Vt} {k : ByteArray} (h : nextF F (keysV S F.part) = (F2, some k)) : ofK k = F.part := by
 have h1 := next_mem (F := F) (ks := keysV S F.part) (k := k) (by rw [h])
 exact (mem_keysV.1 h1).2
theorem GvOk.one {G : Gv} (h : GvOk G) {S : Vt} {F : Fd} {k : ByteArray} (hn : nextF G.F (keysV S G.F.part) = (F, some k)) (hl : G.out.length < 4) (hf : G.seq + 1 ≤ 4 * G.ticks) : GvOk ⟨G.self, G.part, G.epoch, G.dst, F, G.seq + 1, G.ticks, G.ends, G.out ++ [⟨G.seq + 1, k, bagV S k, G.ticks⟩]⟩ := by
 have h1 := h.fd.next (keysV S G.F.part)
 have h2 := next_part G.F (keysV S G.F.part)
 rw [hn] at h1 h2
 have hn1 := h.nn.1
 refine ⟨h1, h2.trans h.part, h.may, ?_, fun o ho => ?_, fun o ho => ?_, by show (G.out ++ [_]).length ≤ 4; rw [List.length_append]; exact hl, ⟨by show 0 ≤ G.seq + 1; omega, h.nn.2⟩, hf, fun o ho => ?_⟩
 ·refine List.pairwise_append.2 ⟨h.srt, List.pairwise_singleton _ _, fun a ha b hb => ?_⟩
  obtain rfl := List.mem_singleton.1 hb
  have := (h.seq a ha).2
  show a.seq < G.seq + 1
  omega
 ·rcases List.mem_append.1 ho with ho | ho
  ·have := h.seq o ho
   exact ⟨this.1, by show o.seq ≤ G.seq + 1; omega⟩
  ·obtain rfl := List.mem_singleton.1 ho
   exact ⟨by show 1 ≤ G.seq + 1; omega, Int.le_refl _⟩
 ·rcases List.mem_append.1 ho with ho | ho
  ·exact h.key o ho
  ·obtain rfl := List.mem_singleton.1 ho
   exact (key_of_next hn).trans h.part
 ·rcases List.mem_append.1 ho with ho | ho
  ·exact h.at_ o ho
  ·obtain rfl := List.mem_singleton.1 ho
   exact ⟨h.nn.2, Int.le_refl _⟩
theorem GvOk.none {G : Gv} (h : GvOk G) {S : Vt} {F : Fd} (hn : nextF G.F (keysV S G.F.part) = (F, .none)) : GvOk ⟨G.self, G.part, G.epoch, G.dst, F, G.seq, G.ticks, G.ends, G.out⟩ := by
 have h1 := h.fd.next (keysV S G.F.part)
 have h2 := next_part G.F (keysV S G.F.part)
 rw [hn] at h1 h2
 exact ⟨h1, h2.trans h.part, h.may, h.srt, h.seq, h.key, h.len, h.nn, h.few, h.at_⟩
theorem GvOk.fill (S : Vt) : ∀ (n : Nat) {G : Gv}, GvOk G → G.out.length + n ≤ 4 → G.seq + n ≤ 4 * G.ticks → GvOk (fillG S n G).1
 | 0, _, h, _, _ => h
 | n + 1, G, h, hl, hf => by
  unfold fillG
  obtain ⟨F, o, hn⟩ : ∃ F o, nextF G.F (keysV S G.F.part) = (F, o) := ⟨_, _, rfl⟩
  rw [hn]
  cases o with
  | some k => exact GvOk.fill S n (h.one hn (by omega) (by omega)) (by show (G.out ++ [_]).length + n ≤ 4; rw [List.length_append, List.length_singleton]; omega) (by show G.seq + 1 + n ≤ 4 * G.ticks; omega)
  | none => exact h.none hn
theorem GvOk.filled {G : Gv} (h : GvOk G) (S : Vt) : GvOk (fillT G S).1 := GvOk.fill S (4 - G.out.length) h.aged (by show (G.out.map _).length + _ ≤ 4; rw [List.length_map]; have := h.len; omega) (by show G.seq + ((4 - G.out.length : Nat) : Int) ≤ 4 * (G.ticks + 1); have := h.few; omega)
theorem GvOk.tick {G : Gv} (h : GvOk G) (S : Vt) : GvOk (tickG G S).1 := by
 have h2 := h.filled S
 unfold tickG
 split
 ·exact ⟨h2.fd, h2.part, h2.may, h2.srt, h2.seq, h2.key, h2.len, h2.nn, h2.few, h2.at_⟩
 ·exact h2
theorem fill_ticks (S : Vt) : ∀ (n : Nat) (G : Gv), (fillG S n G).1.ticks = G.ticks
 | 0, _ => rfl
 | n + 1, G => by
  unfold fillG
  obtain ⟨F, o, hn⟩ : ∃ F o, nextF G.F (keysV S G.F.part) = (F, o) := ⟨_, _, rfl⟩
  rw [hn]
  cases o with
  | some k => exact fill_ticks S n _
  | none => rfl
theorem tick_ticks (G : Gv) (S : Vt) : (tickG G S).1.ticks = G.ticks + 1 := by
 have h : (fillT G S).1.ticks = G.ticks + 1 := fill_ticks S _ (agedG G)
 unfold tickG
 split
 ·exact h
 ·exact h
theorem tick_end {G : Gv} {S : Vt} (h : overG (fillT G S).1 S = true) : tickG G S = (endsG (fillT G S).1, tellL G S ++ [endM G]) := if_pos h
theorem tick_go {G : Gv} {S : Vt} (h : overG (fillT G S).1 S = false) : tickG G S = ((fillT G S).1, tellL G S) := if_neg (by rw [h]; decide)
theorem GvOk.wrote {G : Gv} (h : GvOk G) (k : ByteArray) : GvOk (wroteG G k) := ⟨h.fd.back k, (back_part _ _).trans h.part, h.may, h.srt, h.seq, h.key, h.len, h.nn, h.few, h.at_⟩
theorem GvOk.got {G : Gv} (h : GvOk G) (m : Ms) : GvOk (gotG G m) := by
 unfold gotG
 split
 ·exact ⟨h.fd, h.part, h.may, h.srt.sublist List.filter_sublist, fun o ho => h.seq o (List.mem_filter.1 ho).1, fun o ho => h.key o (List.mem_filter.1 ho).1, Nat.le_trans (List.length_filter_le _ _) h.len, h.nn, h.few, fun o ho => h.at_ o (List.mem_filter.1 ho).1⟩
 ·exact h
end Go.Proofs.YtcchkkdbagpgjaaGreat
