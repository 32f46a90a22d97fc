/- Plain mathematics on control packets: what a packet has, and its body's bytes by its kind. No program is named; no statement is proved here. -/
import Derived.Test.YtacaempcbdekaaaDoorRtcpNum2
namespace Go.Proofs.YtacaempcbdekaaaDoor
set_option linter.unusedVariables false

/-- A control packet. -/
structure Ctl where
  k : Int
  so : Nat
  me : Nat
  ti : Nat
  st : Nat
  pa : Nat
  oc : Nat
  reps : List Rep
  nams : List (Nat × List UInt8)
  srcs : List Nat
  loss : List (Nat × Nat)
  firs : List (Nat × Nat)
  ra : Nat
def mkSR (k : Int) (so ti st pa oc : Nat) (L : List Rep) : Ctl := ⟨k, so, 0, ti, st, pa, oc, L, [], [], [], [], 0⟩
def mkRR (k : Int) (so : Nat) (L : List Rep) : Ctl := ⟨k, so, 0, 0, 0, 0, 0, L, [], [], [], [], 0⟩
def mkSD (k : Int) (L : List (Nat × List UInt8)) : Ctl := ⟨k, 0, 0, 0, 0, 0, 0, [], L, [], [], [], 0⟩
def mkBY (k : Int) (L : List Nat) : Ctl := ⟨k, 0, 0, 0, 0, 0, 0, [], [], L, [], [], 0⟩
def mkNA (k : Int) (so me : Nat) (L : List (Nat × Nat)) : Ctl := ⟨k, so, me, 0, 0, 0, 0, [], [], [], L, [], 0⟩
def mkPL (k : Int) (so me : Nat) : Ctl := ⟨k, so, me, 0, 0, 0, 0, [], [], [], [], [], 0⟩
def mkFI (k : Int) (so : Nat) (L : List (Nat × Nat)) : Ctl := ⟨k, so, 0, 0, 0, 0, 0, [], [], [], [], L, 0⟩
def mkRE (k : Int) (so : Nat) (L : List Nat) (ra : Nat) : Ctl := ⟨k, so, 0, 0, 0, 0, 0, [], [], L, [], [], ra⟩

def bSR (so ti st pa oc : Nat) (L : List Rep) : List UInt8 := beb 4 so ++ (beb 8 ti ++ (beb 4 st ++ (beb 4 pa ++ (beb 4 oc ++ L.flatMap repB))))
def bRR (so : Nat) (L : List Rep) : List UInt8 := beb 4 so ++ L.flatMap repB
def bSD (L : List (Nat × List UInt8)) : List UInt8 := L.flatMap namB
def bBY (L : List Nat) : List UInt8 := L.flatMap (beb 4)
def bNA (so me : Nat) (L : List (Nat × Nat)) : List UInt8 := beb 4 so ++ (beb 4 me ++ L.flatMap lossB)
def bPL (so me : Nat) : List UInt8 := beb 4 so ++ beb 4 me
def bFI (so : Nat) (L : List (Nat × Nat)) : List UInt8 := beb 4 so ++ (beb 4 0 ++ L.flatMap firB)
/-- The letters ahead of a rate. -/
def letB : List UInt8 := [82, 69, 77, 66]
def bRE (so : Nat) (L : List Nat) (m e : Nat) : List UInt8 := beb 4 so ++ (beb 4 0 ++ (letB ++ (beb 1 L.length ++ (beb 3 (e * 262144 + m) ++ L.flatMap (beb 4)))))
theorem beb_zero (n : Nat) : beb n 0 = List.replicate n 0 := by
  unfold beb
  apply List.ext_getElem <;> simp
end Go.Proofs.YtacaempcbdekaaaDoor
