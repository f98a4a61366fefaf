/- The landed probe: slices.DeleteFunc. -/
import Derived.Test.YtfhfhneclplklaaProDel
namespace Go.Proofs.Ytfhfhneclplklaa
open Go Go.RowKit

theorem zeroI (w : World) : (zeroValue 3).run Try.prog w = .ok (.int .i64 0) w := by
  obtain ⟨i0, hi, hz0, hz1, hz2⟩ := info_parts infoInt
  simp [zeroValue, typeInfo, hi, hz0]
theorem clearI (W : World) (ty : TypeId) {g o n cap : Nat} {l : List Int} (h : RowI W g o l) {i : Nat} (hi : i < l.length) (hn : n = l.length - i) :
    (Builtin.clear_ #[26] ty #[.slice (some ⟨g, o + i, none⟩) n cap]).run Try.prog W = .ok (.tuple #[]) (W.setCells g (o + i) (List.replicate n (.int .i64 0))) := by
  subst hn
  exact Go.Lib.run_clear_slice W _ _ ty _ uSlI zeroI rfl rfl g (o + i) _ _ (by omega)
    (fun j hj => by rw [show o + i + j = o + (i + j) from by omega, h.cell (i + j) _ (List.getElem?_eq_getElem (by omega))]; rfl)
    (fun j _ => h.fz _)

theorem delNone_any (b : Nat) (u : Value) (P : List Int) (v : Value) (l : List Int) (w : World) (hb : b < w.heap.size) (hc : w.cell? ⟨b, 0, none⟩ = some u) (hu : IntsAt w u P) (hP : P.length ≤ 1000) (hv : IntsAt w v l) (hl : l.length ≤ 1000) (hno : firstGone P l = -1) :
    Gives Try.prog 24 #[v, .func (.func 25) #[] #[.pointer (some ⟨b, 0, none⟩)]] w v := by
  unfold Gives
  have HI := Lib.hid (goneIdx_any b u P v l w hb hc hu hP hv hl)
  rw [hno] at HI
  obtain ⟨p, cap, rfl, hp⟩ := hv.form
  clear hv hp hu hc hno
  go_enter Try.func24, Try.ntmps24
  go_wp2_with fail
  refine Gives.mono' HI.out ?_
  intro x
  go_wp2_with fail
  go_ret
  exact ⟨rfl, Later.ex x.below⟩

def StrikeEnd (P l : List Int) (g o cap : Nat) (w : World) (e : Ending) (w' : World) : Prop :=
  ∃ n, n = (l.filter fun x => P.contains x).length ∧ e = .returned (.slice (some ⟨g, o, none⟩) n cap) ∧ RowI w' g o (l.filter fun x => P.contains x) ∧ Fr (fun k => k = g) w w'

set_option maxHeartbeats 1000000 in
set_option maxRecDepth 100000 in
theorem strike_any (b : Nat) (u : Value) (P : List Int) (g o cap : Nat) (l : List Int) (w : World) (hb : b < w.heap.size)
    (hG : ∀ W', Fr (fun k => k = g) w W' → W'.cell? ⟨b, 0, none⟩ = some u ∧ IntsAt W' u P) (hP : P.length ≤ 1000) (hr : RowI w g o l) (hl : l.length ≤ 1000) (hcap : l.length ≤ cap) {k0 : Nat} (hk0 : firstGone P l = (k0 : Int)) (hs : Striking P l k0 (k0 + 1) l) (hkl : k0 < l.length) :
    Calls Try.prog 24 #[.slice (some ⟨g, o, none⟩) l.length cap, .func (.func 25) #[] #[.pointer (some ⟨b, 0, none⟩)]] w (StrikeEnd P l g o cap w) := by
  have HG := Lib.hid hG
  obtain ⟨hc0, hu0⟩ := hG w (Fr.refl _ _)
  have HI := Lib.hid (goneIdx_any b u P (.slice (some ⟨g, o, none⟩) l.length cap) l w hb hc0 hu0 hP hr.ints hl)
  rw [hk0] at HI
  have HS := Lib.hid hs
  have HR := Lib.hid hr
  have gk : ((k0 : Int) == -1) = false := by rw [beq_eq_false_iff_ne]; omega
  clear hG hc0 hu0 hk0 hs hr
  go_enter Try.func24, Try.ntmps24
  go_wp2_with fail
  refine Gives.mono' HI.out ?_
  intro x
  have HR1 := Lib.hid (HR.out.later x)
  have HF1 := Lib.hid ((Fr.refl (fun k => k = g) w).later x)
  go_wp2_with fail
  go_loopw [5, 6, 7] (fun v5 v6 _ wr => ∃ (i j : Nat) (L : List Int), v5 = .int .i64 i ∧ v6 = .int .i64 j ∧ j ≤ l.length ∧ Hid (Striking P l i j L) ∧ Hid (RowI wr g o L) ∧ Hid (Fr (fun k => k = g) w wr)) (fun _ v6 _ _ => l.length - (intOf v6).toNat)
  case atStart => exact ⟨k0, k0 + 1, l, rfl, by go_num, by omega, HS, HR1, HF1⟩
  case round =>
    clear HR1 HF1
    obtain ⟨i, j, L, rfl, rfl, hj, HSt, HRo, HFr⟩ := hrel
    have hij := HSt.out.lt
    by_cases hjl : j < l.length
    · obtain ⟨c, hjc⟩ : ∃ c, l[j]? = some c := ⟨_, List.getElem?_eq_getElem hjl⟩
      have HK := Lib.hid hjc
      have hjd : decide ((j : Int) < (l.length : Int)) = true := by simp; omega
      have hb1 : b < wr.heap.size := Nat.lt_of_lt_of_le hb HFr.out.size
      have hg1 := HRo.out.lt
      obtain ⟨hcb, hub⟩ := HG.out wr HFr.out
      have HGo := Lib.hid (gone_any b u P c wr hcb hub hP)
      clear hjc hcb hub
      cases hcn : P.contains c with
      | true =>
        rw [hcn] at HGo
        obtain ⟨hLj, hst⟩ := HSt.out.keep HK.out hcn
        have HSt' := Lib.hid hst
        obtain ⟨c0, hLi⟩ : ∃ c0, L[i]? = some c0 := ⟨_, List.getElem?_eq_getElem (by have := HSt.out.len; omega)⟩
        have aj := HRo.out.cell j _ hLj
        clear hst hcn hLj
        go_wp2_with fail
        refine Gives.mono' HGo.out ?_
        intro y
        have ai := (HRo.out.later y).cell i _ hLi
        have fi := (HRo.out.later y).fz (o + i)
        have HRo' := Lib.hid ((HRo.out.later y).set i c (by have := HSt.out.len; omega))
        have HFr' := Lib.hid ((HFr.out.later y).set g (o + i) (.int .i64 c) (.inl rfl))
        have hg2 : g < y.w.heap.size := Nat.lt_of_lt_of_le hg1 y.below.size
        clear hLi
        go_wp2_with fail
        go_roundw
        case rel => exact ⟨i + 1, j + 1, _, by go_num, by go_num, by omega, HSt', HRo', HFr'⟩
        case measure => simp [intOf]; omega
      | false =>
        rw [hcn] at HGo
        obtain ⟨hLj, hst⟩ := HSt.out.skip HK.out hcn
        have HSt' := Lib.hid hst
        have aj := HRo.out.cell j _ hLj
        clear hst hcn hLj
        go_wp2_with fail
        refine Gives.mono' HGo.out ?_
        intro y
        go_wp2_with fail
        go_roundw
        case rel => exact ⟨i, j + 1, L, rfl, by go_num, by omega, HSt', Lib.hid (HRo.out.later y), Lib.hid (HFr.out.later y)⟩
        case measure => simp [intOf]; omega
    · obtain rfl : j = l.length := by omega
      have hLl := HSt.out.len
      have hcl := fun ty => clearI (cap := cap - i) wr ty HRo.out (i := i) (n := l.length - i) (by omega) (by omega)
      have hic : ¬ cap = i := by omega
      have hjd : decide ((l.length : Int) < (l.length : Int)) = false := by simp
      have HFin : Hid (StrikeEnd P l g o cap w (.returned (.slice (some ⟨g, o, none⟩) i cap)) (wr.setCells g (o + i) (List.replicate (l.length - i) (.int .i64 0)))) := Lib.hid (by
        have hk := HSt.out.kept
        rw [List.take_length] at hk
        refine ⟨i, ?_, rfl, ?_, Fr.setCells (F := fun k => k = g) rfl _ _ HFr.out⟩
        · rw [← hk, List.length_take]; omega
        · rw [← hk]; exact HRo.out.cleared i _)
      go_wp2_with fail
      go_ret
      exact HFin.out
end Go.Proofs.Ytfhfhneclplklaa
