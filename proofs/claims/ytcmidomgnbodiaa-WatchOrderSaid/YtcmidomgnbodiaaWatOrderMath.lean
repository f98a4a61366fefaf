/- WatchOrder: what each step's moments say of the whole. -/
import Derived.Test.YtcmidomgnbodiaaWatMath
namespace Go.Proofs.Ytcmidomgnbodiaa

/-- What a later step hands out was waited for all the time, and its moment has come. -/
theorem order_at {L : List Mo} (h : FineM L) {now now' : Int} {x : Mo} (hx : x ∈ dueM (restM L now) now') : hasM L x.n = some x ∧ x.t ≤ now' := by
  obtain ⟨h1, h2⟩ := List.mem_filter.1 hx
  exact ⟨hasM_of h.once (List.mem_filter.1 h1).1, by simpa using h2⟩
/-- While a step's moments are being appended: k of them. -/
theorem order_got {L : List Mo} (h : FineM L) {now now' : Int} (hle : now ≤ now') {N : List Mo} (hN : dueM (restM L now) now' = N) : (dueM L now).map Mo.n ++ N.map Mo.n = (dueM L now').map Mo.n := by
  rw [← List.map_append, ← hN, due_step h.sorted hle]
theorem order_rest {L : List Mo} (h : FineM L) (now : Int) : ((dueM L now).map Mo.n).length ≤ L.length ∧ (restM L now).length = L.length - ((dueM L now).map Mo.n).length := by
  have := due_len h.sorted now
  rw [List.length_map]
  omega
/-- The rest, all at once. -/
theorem order_end {L : List Mo} (h : FineM L) (now : Int) : dueM (restM L now) 1099511627776 = restM L now ∧ restM (restM L now) 1099511627776 = [] := due_top (h.rest now)
theorem take_next {l : List Int} {k : Nat} {x : Int} (h : l[k]? = some x) : l.take (k + 1) = l.take k ++ [x] := by
  rw [List.take_add_one, h]
  rfl
end Go.Proofs.Ytcmidomgnbodiaa
