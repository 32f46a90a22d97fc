/- Plain mathematics of layer 4: a key's block, and the tag of a message by a key, of lists of bytes, as the document defines them. No program is named; no statement is proved here. -/
import Derived.Test.YtihaiplkkamkoaaDoorShaNum
namespace Go.Proofs.YtihaiplkkamkoaaDoor

/-- Each byte's exclusive or with x. -/
def xorB (x : UInt8) (bs : List UInt8) : List UInt8 := bs.map fun b => b ^^^ x
theorem xorB_len (x : UInt8) (bs : List UInt8) : (xorB x bs).length = bs.length := by simp [xorB]
theorem xorB_take (x : UInt8) (bs : List UInt8) (k : Nat) (h : k < bs.length) : xorB x (bs.take (k + 1)) = xorB x (bs.take k) ++ [bs.getD k 0 ^^^ x] := by
  rw [List.take_succ_eq_append_getElem h, xorB, xorB, List.map_append]
  simp only [List.map_cons, List.map_nil, List.getD, List.getElem?_eq_getElem h, Option.getD_some]
/-- The bytes that a loop has turned, and those that it has not. -/
def turnAt (x : UInt8) (bs : List UInt8) (k : Nat) : List UInt8 := xorB x (bs.take k) ++ bs.drop k
theorem turnAt_len (x : UInt8) (bs : List UInt8) (k : Nat) (h : k ≤ bs.length) : (turnAt x bs k).length = bs.length := by simp [turnAt, xorB_len]; omega
theorem turnAt_zero (x : UInt8) (bs : List UInt8) : turnAt x bs 0 = bs := by simp [turnAt, xorB]
theorem turnAt_all (x : UInt8) (bs : List UInt8) (k : Nat) (h : bs.length ≤ k) : turnAt x bs k = xorB x bs := by simp [turnAt, List.take_of_length_le h, List.drop_of_length_le h]
theorem turnAt_get (x : UInt8) (bs : List UInt8) (k : Nat) (h : k < bs.length) : (turnAt x bs k).getD k 0 = bs.getD k 0 := by
  have e : (xorB x (bs.take k)).length = k := by rw [xorB_len, List.length_take]; omega
  unfold turnAt
  simp [List.getD, List.getElem?_append, e]
theorem turnAt_step (x : UInt8) (bs : List UInt8) (k : Nat) (h : k < bs.length) : (turnAt x bs k).set k (bs.getD k 0 ^^^ x) = turnAt x bs (k + 1) := by
  have e : (xorB x (bs.take k)).length = k := by rw [xorB_len, List.length_take]; omega
  unfold turnAt
  rw [List.set_append_right _ _ (by omega), e, Nat.sub_self, List.drop_eq_getElem_cons h, List.set_cons_zero, xorB_take x bs k h, List.append_assoc]
  rfl

/-- Bytes with zeros behind, up to 64. -/
def padTo (k : List UInt8) : List UInt8 := k ++ List.replicate (64 - k.length) 0
theorem padTo_len (k : List UInt8) (h : k.length ≤ 64) : (padTo k).length = 64 := by simp [padTo]; omega
/-- What stands for a key: its bytes, or its sum. -/
def keyS (key : List UInt8) : List UInt8 := if 64 < key.length then shaSum key else key
theorem keyS_le (key : List UInt8) : (keyS key).length ≤ 64 := by
  unfold keyS
  split
  · rw [shaSum_len]; omega
  · omega
theorem keyS_long {key : List UInt8} (h : 64 < key.length) : keyS key = shaSum key := by simp [keyS, h]
theorem keyS_short {key : List UInt8} (h : ¬ 64 < key.length) : keyS key = key := by simp [keyS, h]
/-- A key's block. -/
def keyB (key : List UInt8) : List UInt8 := padTo (keyS key)
theorem keyB_len (key : List UInt8) : (keyB key).length = 64 := padTo_len _ (keyS_le key)
/-- The sum ahead, and the tag. -/
def inSum (key m : List UInt8) : List UInt8 := shaSum (xorB 54 (keyB key) ++ m)
def macFull (key m : List UInt8) : List UInt8 := shaSum (xorB 92 (keyB key) ++ inSum key m)
theorem inSum_len (key m : List UInt8) : (inSum key m).length = 20 := shaSum_len _
theorem macFull_len (key m : List UInt8) : (macFull key m).length = 20 := shaSum_len _
/-- The document's example. -/
def exKey : List UInt8 := [74, 101, 102, 101]
def exA : List UInt8 := [119, 104, 97, 116, 32, 100, 111, 32, 121, 97, 32, 119, 97, 110, 116, 32]
def exB : List UInt8 := [102, 111, 114, 32, 110, 111, 116, 104, 105, 110, 103, 63]
theorem ex_in : inSum exKey (exA ++ exB) = [152, 133, 18, 68, 58, 249, 28, 87, 163, 140, 226, 220, 142, 195, 135, 150, 108, 8, 222, 196] := by decide +kernel
theorem ex_out : shaSum (xorB 92 (keyB exKey) ++ [152, 133, 18, 68, 58, 249, 28, 87, 163, 140, 226, 220, 142, 195, 135, 150, 108, 8, 222, 196]) = [239, 252, 223, 106, 229, 235, 47, 162, 210, 116, 22, 213, 241, 132, 223, 156, 37, 154, 124, 121] := by decide +kernel
theorem ex_is : macFull exKey (exA ++ exB) = [239, 252, 223, 106, 229, 235, 47, 162, 210, 116, 22, 213, 241, 132, 223, 156, 37, 154, 124, 121] := by unfold macFull; rw [ex_in, ex_out]
end Go.Proofs.YtihaiplkkamkoaaDoor
