/- What the document's answer for layer 14 (tenailleref14) tells of payloads of several units. No statement is proved here. -/
import Derived.Test.YtbifgglhhhcacaaAvcR1
import Derived.BigQuiet
namespace Go.Proofs.Ytbifgglhhhcacaa
open Go.RowKit
set_option linter.unusedVariables false

theorem i64_infA : (Try.prog.info? 3).map (fun i => (i.zero, i.size, i.bytes)) = some (some (.int .i64 0), 1, 8) := by kernel_rfl
theorem nI_snoc (L : List Nat) (x : Nat) : icells (nI L) ++ [Value.int .i64 (x : Int)] = icells (nI (L ++ [x])) := by simp [icells, nI]
theorem U14.row {bs : List UInt8} {w w' : World} {L : List Nat} {A : Option Addr} {c M : Nat} (h : unitsA bs = (L, 0)) (hs : ∀ x ∈ L, x < 32) (hM : M = L.length) (hk : M ≤ 1000000) (ho : w'.ownsRow w.heap.size 3 1 (.slice A M c) M (icells (nI L))) (hb : Below w.heap.size w w') : U14 bs w (.returned (.tuple #[.slice A M c, .int .i64 0])) w' := by
  refine ⟨A, c, M, by rw [h]; exact hM, by rw [h]; rfl, ?_, hb⟩
  rw [h]
  refine ⟨by simp [nI, hM], by omega, fun z hz => ?_, fun hn => ?_⟩
  · obtain ⟨x, hx, rfl⟩ := List.mem_map.1 hz
    have := hs x hx
    omega
  · obtain ⟨g, c', hv, hb2, hlt, hc⟩ := own_ints ho hn
    injection hv with h1 _ _
    exact ⟨g, 0, h1, hlt, fun j hj => by rw [Nat.zero_add]; exact hc j hj⟩
end Go.Proofs.Ytbifgglhhhcacaa
