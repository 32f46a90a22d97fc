/- Plain mathematics on control packets: what they are, and their bytes. No program is named; no statement is proved here. -/
import Derived.Test.YtacaempcbdekaaaDoorRtcpNum
import Derived.Test.YtacaempcbdekaaaDoorNums
namespace Go.Proofs.YtacaempcbdekaaaDoor
set_option linter.unusedVariables false

/-- A report. -/
structure Rep where
  so : Nat
  fr : Nat
  lo : Int
  hi : Nat
  ji : Nat
  la : Nat
  de : Nat
def Rep.fit (r : Rep) : Prop := r.so < 4294967296 ∧ r.fr < 256 ∧ (-2147483648 ≤ r.lo ∧ r.lo < 2147483648) ∧ r.hi < 4294967296 ∧ r.ji < 4294967296 ∧ r.la < 4294967296 ∧ r.de < 4294967296
/-- Its lost ones have three bytes. -/
def Rep.ok (r : Rep) : Prop := -8388608 ≤ r.lo ∧ r.lo ≤ 8388607
def lo24 (z : Int) : Nat := (if z < 0 then z + 16777216 else z).toNat
theorem lo24_lt (z : Int) (h1 : -8388608 ≤ z) (h2 : z ≤ 8388607) : lo24 z < 16777216 := by unfold lo24; split <;> omega
theorem lo24_is (z : Int) (h1 : -8388608 ≤ z) (h2 : z ≤ 8388607) : (lo24 z : Int) = if z < 0 then z + 16777216 else z := by unfold lo24; split <;> omega
def repB (r : Rep) : List UInt8 := beb 4 r.so ++ (beb 1 r.fr ++ (beb 3 (lo24 r.lo) ++ (beb 4 r.hi ++ (beb 4 r.ji ++ (beb 4 r.la ++ beb 4 r.de)))))
theorem repB_len (r : Rep) : (repB r).length = 24 := by simp [repB, length_beb]
/-- How many zeros are behind a name of n bytes. -/
def zb (n : Nat) : Nat := 4 - (6 + n) % 4
def namB (x : Nat × List UInt8) : List UInt8 := beb 4 x.1 ++ (beb 1 1 ++ (beb 1 x.2.length ++ (x.2 ++ List.replicate (zb x.2.length) 0)))
def lossB (x : Nat × Nat) : List UInt8 := beb 2 x.1 ++ beb 2 x.2
def firB (x : Nat × Nat) : List UInt8 := beb 4 x.1 ++ (beb 1 x.2 ++ List.replicate 3 0)
theorem namB_len (x : Nat × List UInt8) : (namB x).length = 6 + x.2.length + zb x.2.length := by simp [namB, length_beb]; omega
theorem lossB_len (x : Nat × Nat) : (lossB x).length = 4 := by simp [lossB, length_beb]
theorem firB_len (x : Nat × Nat) : (firB x).length = 8 := by simp [firB, length_beb]
theorem flat_len {α : Type} (f : α → List UInt8) (n : Nat) (hf : ∀ x, (f x).length = n) : ∀ L : List α, (L.flatMap f).length = n * L.length
  | [] => by simp
  | a :: r => by rw [List.flatMap_cons, List.length_append, hf, flat_len f n hf r, List.length_cons, Nat.mul_succ]; omega
theorem drop_at {α : Type} {L : List α} {k : Nat} (h : k < L.length) : L.drop k = L[k] :: L.drop (k + 1) := List.drop_eq_getElem_cons h
theorem flat_at {α : Type} (f : α → List UInt8) {L : List α} {k : Nat} (h : k < L.length) (tl : List UInt8) : (L.drop k).flatMap f ++ tl = f L[k] ++ ((L.drop (k + 1)).flatMap f ++ tl) := by
  rw [drop_at h, List.flatMap_cons, List.append_assoc]
theorem vals_at {α β : Type} (f : α → List β) {L : List α} {k : Nat} (h : k < L.length) : (L.take (k + 1)).flatMap f = (L.take k).flatMap f ++ f L[k] := by
  rw [List.take_add_one, List.getElem?_eq_getElem h, List.flatMap_append]
  simp only [Option.toList, List.flatMap_cons, List.flatMap_nil, List.append_nil]
end Go.Proofs.YtacaempcbdekaaaDoor
