/- Plain words on what a tick asks: how many of those that are due; the loop's invariant. No statement is proved here. -/
import Derived.Test.YtkmacpmdgbhhkaaLosP7
import Derived.Test.YtkmacpmdgbhhkaaLosR9
namespace Go.Proofs.Ytkmacpmdgbhhkaa
open Go.RowKit
set_option linter.unusedVariables false

/-- How many of these sequence numbers are asked, l being asked already. -/
def askN : List Nat → List Nat → Nat
  | [], _ => 0
  | q :: r, l => if 16 < (lsL (l ++ [q])).length then 0 else 1 + askN r (l ++ [q])
theorem askN_le : ∀ (S l : List Nat), askN S l ≤ S.length
  | [], _ => Nat.le_refl _
  | q :: r, l => by
    unfold askN
    split
    · exact Nat.zero_le _
    · have := askN_le r (l ++ [q]); simp; omega
def sqM (x : Mis) : Nat := (x.i % 65536).toNat
/-- What a tick asks, by those that are due. -/
theorem askM_n (p tk : Int) : ∀ (M : List Mis) (l : List Nat), (M.Pairwise fun a b => a.i < b.i) →
    askM p tk M l = (M.map (fun x => if x.i ∈ ((M.filter fun y => decide (y.n ≤ tk)).take (askN ((M.filter fun y => decide (y.n ≤ tk)).map sqM) l)).map (·.i) then ⟨x.i, x.t + 1, tk + p⟩ else x),
      l ++ ((M.filter fun y => decide (y.n ≤ tk)).take (askN ((M.filter fun y => decide (y.n ≤ tk)).map sqM) l)).map sqM)
  | [], l, _ => by simp [askM]
  | x :: r, l, hp => by
    obtain ⟨h1, h2⟩ := List.pairwise_cons.1 hp
    unfold askM
    by_cases hd : tk < x.n
    · rw [if_pos hd]
      have e : ((x :: r).filter fun y => decide (y.n ≤ tk)) = r.filter fun y => decide (y.n ≤ tk) := List.filter_cons_of_neg (by simp; omega)
      have hx : x.i ∉ ((r.filter fun y => decide (y.n ≤ tk)).take (askN ((r.filter fun y => decide (y.n ≤ tk)).map sqM) l)).map (·.i) := fun hm => by
        obtain ⟨y, hy, he⟩ := List.mem_map.1 hm
        have := h1 y (List.mem_filter.1 (List.mem_of_mem_take hy)).1
        omega
      simp only [askM_n p tk r l h2, e, List.map_cons]
      rw [if_neg hx]
    · rw [if_neg hd]
      have e : ((x :: r).filter fun y => decide (y.n ≤ tk)) = x :: r.filter fun y => decide (y.n ≤ tk) := List.filter_cons_of_pos (by simp; omega)
      have e5 : askN ((x :: r.filter fun y => decide (y.n ≤ tk)).map sqM) l = if 16 < (lsL (l ++ [(x.i % 65536).toNat])).length then 0 else 1 + askN ((r.filter fun y => decide (y.n ≤ tk)).map sqM) (l ++ [(x.i % 65536).toNat]) := rfl
      rw [e, e5]
      by_cases h16 : 16 < (lsL (l ++ [(x.i % 65536).toNat])).length
      · rw [if_pos h16, if_pos h16]
        simp
      · rw [if_neg h16, if_neg h16]
        have e6 : sqM x = (x.i % 65536).toNat := rfl
        simp only [askM_n p tk r _ h2, List.map_cons, Nat.add_comm 1, List.take_succ_cons, List.append_assoc, List.singleton_append, e6]
        refine Prod.ext ?_ rfl
        simp only
        congr 1
        · rw [if_pos (by simp)]
        · refine List.map_congr_left fun y hy => ?_
          have hne : ¬ y.i = x.i := by have := h1 y hy; omega
          simp only [List.mem_cons, hne, false_or]
/-- A packet that was asked. -/
def Pk20.asked (p tk : Int) (x : Pk20) : Pk20 := ⟨x.q, x.i, x.t + 1, tk, p⟩
def Pk20.upd (p tk : Int) (pre : List Pk20) (x : Pk20) : Pk20 := if x.i ∈ pre.map (·.i) then x.asked p tk else x
def Pk20.sq (x : Pk20) : Nat := (x.i % 65536).toNat
theorem Pk20.upd_q (p tk : Int) (pre : List Pk20) (x : Pk20) : (x.upd p tk pre).q = x.q := by unfold Pk20.upd; split <;> rfl
theorem Pk20.upd_p (p tk : Int) (pre : List Pk20) (x : Pk20) : (x.upd p tk pre).p = x.p := by unfold Pk20.p; rw [Pk20.upd_q]
/-- What was asked, in all: the packets as they stand then. -/
theorem asked_all20 {p tk : Int} {X : List Pk20} {M : List Mis} (h : X.map Pk20.mis = M) (hr : M.Pairwise fun a b => a.i < b.i) {pre : List Pk20} (hp : pre = (X.filter (Pk20.due tk)).take pre.length) (hn : askN ((X.filter (Pk20.due tk)).map Pk20.sq) [] = pre.length) :
    (X.map (Pk20.upd p tk pre)).map Pk20.mis = (askM p tk M []).1 ∧ pre.map Pk20.sq = (askM p tk M []).2 := by
  have e1 : (M.filter fun y => decide (y.n ≤ tk)) = (X.filter (Pk20.due tk)).map Pk20.mis := by
    rw [← h]; exact (filter_map20 X (fun y => decide (y.n ≤ tk))).symm
  have e2 : ((X.filter (Pk20.due tk)).map Pk20.mis).map sqM = (X.filter (Pk20.due tk)).map Pk20.sq := by rw [List.map_map]; rfl
  have e3 : ((X.filter (Pk20.due tk)).map Pk20.mis).take pre.length = pre.map Pk20.mis := by rw [← List.map_take, ← hp]
  rw [askM_n p tk M [] hr]
  simp only [e1, e2, hn, e3, List.nil_append]
  refine ⟨?_, by rw [List.map_map]; rfl⟩
  rw [← h, List.map_map, List.map_map]
  refine List.map_congr_left fun x _ => ?_
  simp only [Function.comp, Pk20.upd]
  have e4 : (pre.map Pk20.mis).map (·.i) = pre.map (·.i) := by rw [List.map_map]; rfl
  rw [e4]
  by_cases hx : x.i ∈ pre.map (·.i)
  · rw [if_pos hx, if_pos (show x.mis.i ∈ pre.map (·.i) from hx)]; rfl
  · rw [if_neg hx, if_neg (show ¬ x.mis.i ∈ pre.map (·.i) from hx)]
end Go.Proofs.Ytkmacpmdgbhhkaa
