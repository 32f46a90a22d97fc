/- Plain words, for any program: parts of slices of bytes that read. No statement is proved here. -/
import Derived.Test.YtbifgglhhhcacaaProg
import Derived.Test.YtbifgglhhhcacaaMem
import Derived.WalkLawsBesides
namespace Go.Proofs.Ytbifgglhhhcacaa
open Go.RowKit
set_option linter.unusedVariables false

theorem undB : Try.prog.underlying 22 = some (.slice (Try.prog.elem 22)) := by kernel_rfl
theorem szB : ∀ w, (sizeOf (Try.prog.elem 22)).run Try.prog w = .ok 1 w := fun w => by kernel_rfl
/-- The first bytes of a slice that reads. -/
theorem RdS.headR {w : World} {A : Option Addr} {n c : Nat} {bs : List UInt8} (h : RdS w A n c bs) (m : Nat) (hm : m ≤ n) : RdS w A m c (bs.take m) := by
  obtain ⟨h1, h2, h3, h4, h5⟩ := h
  refine ⟨by rw [List.length_take]; omega, by omega, h3, h4, fun hn => ?_⟩
  obtain ⟨b, off, hA, hlt, hc⟩ := h5 (by omega)
  refine ⟨b, off, hA, hlt, fun j hj => ?_⟩
  rw [hc j (by omega)]
  simp [List.getD, hj]
theorem RdS.only {w w' : World} {A : Option Addr} {n c g : Nat} {bs : List UInt8} (h : RdS w A n c bs) (ho : Only g w w') (hg : OffN A n g) : RdS w' A n c bs :=
  h.keep ho.grown fun p hp => by injection hp with hp; subst hp; exact hg
/-- A slice of bytes that lie in a block ahead of g, if there are any. -/
def LoN (A : Option Addr) (n g : Nat) : Prop := 0 < n → ∀ ad, A = some ad → ad.block < g
theorem LoN.off {A : Option Addr} {n g p : Nat} (h : LoN A n g) (hp : g ≤ p) : OffN A n p := fun h0 ad hA e => by have := h h0 ad hA; omega
theorem LoN.of_off {A A2 : Option Addr} {n m g : Nat} (h : LoN A n g) (h2 : ∀ p, Off A p → Off A2 p) (hm : m ≤ n) : LoN A2 m g := by
  intro h0 ad hA
  refine Nat.lt_of_not_le fun hle => ?_
  exact h2 ad.block (fun ad' hA' e => by have := h (by omega) ad' hA'; omega) ad hA rfl
/-- A part of a slice that reads, in whatever world. -/
theorem run_sl (w : World) (A : Option Addr) (n c : Nat) (bs : List UInt8) (lo hi : Nat) (li hj : Int) (hli : li = lo) (hhj : hj = hi) (h1 : lo ≤ hi) (h2 : hi ≤ n) (hr : RdS w A n c bs) :
    ∃ A2, (∀ wx, (Instr.sliceAt 22 (.slice A n c) (some (.int .i64 li)) (some (.int .i64 hj)) none).run Try.prog wx = .ok (.slice A2 (hi - lo) (c - lo)) wx) ∧ (∀ wx, (Instr.slice 22 (.slice A n c) (some (.int .i64 li)) (some (.int .i64 hj)) none).run Try.prog wx = .ok (.slice A2 (hi - lo) (c - lo)) wx) ∧ RdS w A2 (hi - lo) (c - lo) ((bs.drop lo).take (hi - lo)) := by
  subst hli; subst hhj
  have hle := hr.le
  have e : ∀ wx, (Instr.slice 22 (.slice A n c) (some (.int .i64 (lo : Int))) (some (.int .i64 (hi : Int))) none).run Try.prog wx = .ok (.slice (if c = lo then A else A.map (·.add (lo * 1))) (hi - lo) (c - lo)) wx := fun wx => by
    rw [run_slice_lh wx 22 A n c undB .i64 .i64 (lo : Int) (hi : Int) (by omega) (by omega) (by omega)]
    simp only [szB, Result.andThen_ok, sliced, Int.toNat_natCast]
  refine ⟨_, fun wx => ?_, e, (hr.cut lo (by omega)).headR (hi - lo) (by omega)⟩
  rw [run_sliceAt_slice _ _ _ _ _ _ undB]
  exact e wx
/-- A slice's rest from lo on. -/
theorem run_lo (A : Option Addr) (n c lo : Nat) (li : Int) (hli : li = lo) (h : lo ≤ n) (hle : n ≤ c) (hm : c ≤ maxLen) :
    ∃ A2, (∀ wx, (Instr.sliceAt 22 (.slice A n c) (some (.int .i64 li)) none none).run Try.prog wx = .ok (.slice A2 (n - lo) (c - lo)) wx) ∧ (∀ wx, (Instr.slice 22 (.slice A n c) (some (.int .i64 li)) none none).run Try.prog wx = .ok (.slice A2 (n - lo) (c - lo)) wx) ∧ ∀ w bs, RdS w A n c bs → RdS w A2 (n - lo) (c - lo) (bs.drop lo) := by
  subst hli
  have e : ∀ wx, (Instr.slice 22 (.slice A n c) (some (.int .i64 (lo : Int))) none none).run Try.prog wx = .ok (.slice (if c = lo then A else A.map (·.add (lo * 1))) (n - lo) (c - lo)) wx := fun wx => by
    rw [run_slice_l wx 22 A n c undB .i64 (lo : Int) (by omega) (by omega)]
    simp only [szB, Result.andThen_ok, sliced, Int.toNat_natCast]
  refine ⟨_, fun wx => ?_, e, fun w bs hr => hr.cut lo (by omega)⟩
  rw [run_sliceAt_slice _ _ _ _ _ _ undB]
  exact e wx
/-- 'append' of bytes that read, as one step of a region that draws. -/
theorem step_append_rd {P : Program} {w : World} {ops : Array Oper} {o : Oper} {a : Act} {K : Act → World → Prop} {Q : Exit → Act → World → Prop} {E : Prop} (hgd : o.guard = none) (s x : Operand) {t e : TypeId}
    (ho : o.op = .call { callee := .builtin .append, args := #[s, x], argTypes := #[t, t] }) (ht : P.underlying t = some (.slice e)) (hi : (P.info? e).map (fun i => (i.zero, i.size, i.bytes)) = some (some (.int .u8 0), 1, 1))
    (base : Nat) (v : Value) (n : Nat) (xs : List UInt8) (hs : a.eval s = v) (hown : w.ownsRow base e 1 v n (cells xs)) (A : Option Addr) (m c : Nat) (news : List UInt8) (hx : a.eval x = .slice A m c) (hr : RdS w A m c news)
    (h : n + m ≤ 140737488355328) (hbase : base ≤ w.heap.size)
    (hK : ∀ v' w', w'.ownsRow base e 1 v' (n + m) (cells (xs ++ news)) → w.grownBy w' v.ownBlock → (v'.ownBlock = v.ownBlock ∨ v'.ownBlock = some w.heap.size) → K (a.put o.dst v') w') : if Region.wanted o (yielded ops a.tmps) = true then Oper.wp P o a w K Q else E := by
  rw [if_pos (by simp [Region.wanted, hgd])]
  exact wp_append_rd w s x ho ht hi base v n xs hs hown A m c news hx hr h hbase hK
theorem RdS.lo {w : World} {A : Option Addr} {n c : Nat} {bs : List UInt8} (h : RdS w A n c bs) {g : Nat} (hg : w.heap.size ≤ g) : LoN A n g := by
  intro h0 ad hA
  obtain ⟨b, off, hA', hlt, _⟩ := h.2.2.2.2 h0
  rw [hA] at hA'
  injection hA' with hA'
  subst hA'
  show b < g
  omega
end Go.Proofs.Ytbifgglhhhcacaa
