/- How an interface value's method is found: the object is a pointer; the method is the pointer's own, or the value's behind it. -/
import Derived.Test.YtcmidomgnbodiaaHeap
namespace Go.Proofs.Ytcmidomgnbodiaa
open Go Go.RowKit

theorem run_wrapCheck {P : Program} (t : TypeId) (a : Addr) (s m : ByteArray) (W : World) : (Builtin.ssaWrapNilChk_ #[t] t #[.pointer (some a), .string s, .string m]).run P W = .ok (.pointer (some a)) W := rfl

theorem method_value {P : Program} {T elem f : Nat} {name : String} {fuel : Nat} {a : Addr} {v : Value} {W : World} (hu : P.underlying T = some (.pointer elem))
    (hm : ((P.info? T).bind fun i => i.methods.find? (·.name == name)).map (fun m => (m.path.toList, m.func)) = some ([], some (f, false))) (hl : (loadVar elem a).run P W = .ok v W) :
    (method (fuel + 1) T (.pointer (some a)) name).run P W = .ok (f, v) W := by
  cases hi : P.info? T with
  | none => simp [hi] at hm
  | some i =>
    cases hf : i.methods.find? (·.name == name) with
    | none => simp [hi, hf] at hm
    | some m =>
      simp only [hi, Option.bind_some, hf, Option.map_some, Option.some.injEq, Prod.mk.injEq] at hm
      obtain ⟨hp, hfn⟩ := hm
      have ht : (typeInfo T).run P W = .ok i W := by simp [typeInfo, hi]
      have hun : (underlying T).run P W = .ok (.pointer elem) W := run_underlying hu W
      have he : m.path.isEmpty = true := by simpa using hp
      have hp' : m.path = #[] := Array.toList_inj.1 hp
      unfold method
      simp [Sem.run_bind, ht, hf, hp, hfn, follow, receiverAt, hun, Place.get, Result.andThen, strVal, asAddr]
      rw [if_pos hp']
      simp [Sem.run_bind, run_wrapCheck, Result.andThen, hl]

/-- A call of the value's method through the pointer. -/
theorem via_value {P : Program} {T elem f : Nat} {name : String} {a : Addr} {v : Value} {W : World} {args : Array Value} {Q : Ending → World → Prop} (hu : P.underlying T = some (.pointer elem))
    (hm : ((P.info? T).bind fun i => i.methods.find? (·.name == name)).map (fun m => (m.path.toList, m.func)) = some ([], some (f, false))) (hl : (loadVar elem a).run P W = .ok v W)
    (eg : ∀ args w, (callFunc f args).run P w = .ok (.enter f args) w) (hc : Calls P f (#[v] ++ args) W Q) : Via P (.iface T (.pointer (some a))) name args W Q := by
  refine ⟨f, #[v] ++ args, ?_, hc⟩
  have h1 := method_value (P := P) (fuel := P.types.size + Made.depth - 1) (a := a) hu hm hl
  have h0 : 0 < Made.depth := by decide
  rw [show P.types.size + Made.depth - 1 + 1 = P.types.size + Made.depth from by omega] at h1
  unfold callMethod
  simp [Sem.run_bind, h1, Result.andThen, eg]

theorem method_pointer {P : Program} {T elem f : Nat} {name : String} {fuel : Nat} {a : Addr} {W : World} (hu : P.underlying T = some (.pointer elem))
    (hm : ((P.info? T).bind fun i => i.methods.find? (·.name == name)).map (fun m => (m.path.toList, m.func)) = some ([], some (f, true))) :
    (method (fuel + 1) T (.pointer (some a)) name).run P W = .ok (f, .pointer (some a)) W := by
  cases hi : P.info? T with
  | none => simp [hi] at hm
  | some i =>
    cases hf : i.methods.find? (·.name == name) with
    | none => simp [hi, hf] at hm
    | some m =>
      simp only [hi, Option.bind_some, hf, Option.map_some, Option.some.injEq, Prod.mk.injEq] at hm
      obtain ⟨hp, hfn⟩ := hm
      have ht : (typeInfo T).run P W = .ok i W := by simp [typeInfo, hi]
      have hun : (underlying T).run P W = .ok (.pointer elem) W := run_underlying hu W
      unfold method
      simp [Sem.run_bind, ht, hf, hp, hfn, follow, receiverAt, hun, Place.get, Result.andThen]

/-- A call of the pointer's own method. -/
theorem via_pointer {P : Program} {T f : Nat} {name : String} {v : Value} {W : World} {args : Array Value} {Q : Ending → World → Prop} {n : Nat} (hn : P.types.size + Made.depth = n)
    (hm : (method n T v name).run P W = .ok (f, v) W)
    (eg : ∀ args w, (callFunc f args).run P w = .ok (.enter f args) w) (hc : Calls P f (#[v] ++ args) W Q) : Via P (.iface T v) name args W Q := by
  subst hn
  refine ⟨f, #[v] ++ args, ?_, hc⟩
  unfold callMethod
  simp [Sem.run_bind, hm, Result.andThen, eg]
end Go.Proofs.Ytcmidomgnbodiaa
