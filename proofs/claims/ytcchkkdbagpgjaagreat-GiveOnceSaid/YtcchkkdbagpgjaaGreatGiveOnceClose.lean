/- GiveOnce for every input: whatever the arguments, the law answers true, and nothing that was there has turned. -/
import Derived.Test.YtcchkkdbagpgjaaGreatChecked
import Derived.Test.YtcchkkdbagpgjaaGreatRows
import Derived.Test.YtcchkkdbagpgjaaGreatQ16
import Derived.Test.YtcchkkdbagpgjaaGreatGvGO
namespace Go.Proofs.YtcchkkdbagpgjaaGreat.lawOnce
open Go Go.ChangeShapes Go.WideShapes Go.ChangeAt Go.RowKit Go.Joins
set_option maxRecDepth 100000 in
theorem contract (H : Type) (enc : TypeId × Value → H) (W : World) (base : Nat) (args : Array Value) (ds gs : List (DataW H)) (before : List MemPlace)
  (hval : ∀ (j : Nat) t v, Tryz.f7.params[j]? = some t → args[j]? = some v → Value.okWide Tryz.prog W .any base t v)
  (hW : DataW.Whole enc Tryz.prog Tryz.f7.params.toList Rows.giveOnceSpec.vars false W args.toList ds gs before)
  (hsz : (DataW.weightsEach Tryz.prog (Tryz.f7.params.toList ++ (OpenSpec.ofChange Rows.giveOnceSpec).bare.plain.varTypes Tryz.prog) (ds ++ gs)).all (· ≤ reachBytes) = true) :
  Calls Tryz.prog 7 args W fun e W' => ∃ v, e = .returned v ∧ Rows.giveOnceSpec.post enc Tryz.prog Tryz.f7 false true false false W args v W' := by
 have hW' := hW
 obtain ⟨p, q, hA0, hV, rfl, hfz, hnd⟩ := hW
 have hA : DataW.TrodAll enc Tryz.prog W 0 (fun _ => true) true Tryz.f7.params.toList args.toList ds p := hA0
 have hA' := hA
 rw [Tryz.params7] at hA hval
 obtain ⟨v0, vs0, d0, ds0, p0, q0, e0, rfl, rfl, g0, r0⟩ := trodAll_cons hA
 obtain ⟨v1, vs1, d1, ds1, p1, q1, e1, rfl, rfl, g1, r1⟩ := trodAll_cons r0
 obtain ⟨v2, vs2, d2, ds2, p2, q2, e2, rfl, rfl, g2, r2⟩ := trodAll_cons r1
 obtain ⟨e3, rfl, rfl⟩ := trodAll_nil r2
 obtain rfl : args = #[v0, v1, v2] := by
  apply Array.toList_inj.1
  rw [e0, e1, e2, e3]
 obtain ⟨rfl, rfl⟩ := trodVars_none hV
 obtain ⟨n0, rfl, _, _, _⟩ := open_int Tryz.underlying3 (hval 0 _ v0 rfl rfl) g0
 obtain ⟨n1, rfl, _, _, _⟩ := open_int Tryz.underlying3 (hval 1 _ v1 rfl rfl) g1
 obtain ⟨c2, rfl, hc2, hd2⟩ := open_msg (hval 2 _ v2 rfl rfl) g2
 have hm2 := reach_msg (j := 2) hsz (by kernel_rfl) rfl hd2
 have hlt := fun (x : MemPlace) hx => hW'.lt x hx
 simp only [List.append_nil] at hW' hlt hA'
 refine Calls.mono (onceLaw n0 n1 c2 W hc2 hm2) fun e W' ⟨he, x, hx⟩ => ?_
 subst he
 subst hx
 exact ⟨_, rfl, post_law (pv := []) hW' x.below (trodAll_cons_mk (shut_bool Tryz.underlying4 _) trodAll_mk0) (below_trodAll laidOut x.below (by kernel_rfl) hA' hlt) rfl (by simp only [List.append_nil])⟩
theorem reads (os : Os) {H : Type} (enc : TypeId × Value → H) : ∃ places, DataW.whole enc Tryz.prog ((World.laidAll Tryz.prog os Rows.giveOnceRow.laid).forCall (fun _ _ => 0) ⟨#[], #[.int .i64 0, .int .i64 0, msgZero], []⟩).memory Tryz.f7.params.toList Rows.giveOnceSpec.vars false (#[.int .i64 0, .int .i64 0, msgZero] : Array Value).toList 8 = some ([.lit (.int .i64 0), .lit (.int .i64 0), msgZeroD], [], places) :=
 ⟨[], by kernel_rfl⟩
set_option maxRecDepth 100000 in
theorem lifted (os : Os) (started : os.Started) (H : Type) (enc : TypeId × Value → H) (F : Stop.Interp) :
  ReturnsInHanded {} Tryz.checked os 7 .any ((OpenSpec.ofChange Rows.giveOnceSpec).preRow enc Tryz.prog Tryz.f7 Rows.giveOnceRow.domain false Rows.giveOnceRow.laid) (((OpenSpec.ofChange Rows.giveOnceSpec).at F).post enc Tryz.prog Tryz.f7 false true false false) := by
 obtain ⟨places, hx⟩ := reads os enc
 refine returnsInHanded_of_row (C := Tryz.checked) (s := OpenSpec.ofChange Rows.giveOnceSpec) own started (by kernel_rfl) Tryz.func7
  (witness_row_at (enc := enc) (C := Tryz.checked) false (World.laidAll Tryz.prog os Rows.giveOnceRow.laid) #[.int .i64 0, .int .i64 0, msgZero] (World.laidAll_os _ _ _) (by kernel_rfl) (by kernel_rfl) (by kernel_rfl)
   (OpenSpec.preRow_of_cond 8 hx (by kernel_rfl) (fun k hk => by cases hk) (by kernel_rfl) (laidMet_laidAll _ (by kernel_rfl) (by kernel_rfl)))) ?_
 intro W base args ds gs before hval hW _ _ hsz _ _ _
 exact contract H enc W base args ds gs before hval hW hsz
theorem said : Rows.GiveOnceSaid :=
 OpenClaim.holds_of_cond 7 Tryz.f7 rfl rfl rfl rfl rfl rfl rfl ⟨rfl, rfl, rfl, rfl, rfl⟩ rfl rfl rfl rfl rfl (by kernel_rfl) Tryz.func7 (by kernel_rfl)
  (of_decide_eq_true (by kernel_rfl)) (by unfold Func.isWrapper; first | (rw [if_pos (by decide +kernel)]; kernel_rfl) | (rw [if_neg (by decide +kernel)]; exact ⟨rfl, rfl⟩))
  (fun os started H enc _ F => by rw [OpenClaim.pre_eq_preRow]; exact lifted os started H enc F)
end Go.Proofs.YtcchkkdbagpgjaaGreat.lawOnce
