/- What the document's answer for layer 14 (tenailleref14) tells of payloads that aren't several units. No statement is proved here. -/
import Derived.Test.YtbifgglhhhcacaaAvcNum
import Derived.Test.YtbifgglhhhcacaaElts
import Derived.Test.YtbifgglhhhcacaaInts
import Derived.Test.YtbifgglhhhcacaaReg
namespace Go.Proofs.Ytbifgglhhhcacaa
open Go.RowKit
set_option linter.unusedVariables false

def nI (L : List Nat) : List Int := L.map fun (x : Nat) => (x : Int)
/-- What Units tells. -/
def U14 (bs : List UInt8) (w : World) (e : Ending) (w' : World) : Prop :=
  ∃ A' c' N, N = (unitsA bs).1.length ∧ e = .returned (.tuple #[.slice A' N c', .int .i64 ((unitsA bs).2 : Int)]) ∧ RdI w' A' N (nI (unitsA bs).1) ∧ Below w.heap.size w w'
theorem U14.no {bs : List UInt8} {w w' : World} {q : Nat} (h : unitsA bs = ([], q)) (hb : Below w.heap.size w w') : U14 bs w (.returned (.tuple #[.slice none 0 0, .int .i64 (q : Int)])) w' := by
  refine ⟨none, 0, 0, by rw [h]; rfl, by rw [h], ?_, hb⟩
  rw [h]
  exact ⟨rfl, by omega, by simp [nI], fun h => absurd h (by omega)⟩
theorem U14.one {bs : List UInt8} {w w' : World} {u : Nat} (h : unitsA bs = ([u], 0)) (hu : u < 32) (hb : Below w.heap.size w w') : U14 bs w (.returned (.tuple #[.slice (some ⟨w'.heap.size, 0, none⟩) 1 1, .int .i64 0])) (w'.alloc (.cells #[.int .i64 (u : Int)] 3)) := by
  refine ⟨_, 1, 1, by rw [h]; rfl, by rw [h]; rfl, ?_, hb.alloc hb.size _⟩
  rw [h]
  refine ⟨rfl, by omega, fun z hz => by simp [nI] at hz; omega, fun _ => ⟨w'.heap.size, 0, rfl, by show _ < (w'.heap.push _).size; simp, fun j hj => ?_⟩⟩
  obtain rfl : j = 0 := by omega
  rw [(BlkV.new w' 3 [.int .i64 (u : Int)]).cell]
  rfl
end Go.Proofs.Ytbifgglhhhcacaa
