/- What the document's answer for layer 10 (tenailleref10) says of two packets that are the same. No statement is proved here. -/
import Derived.Test.YticbajagccemoaaRtp8
import Derived.BigQuiet
namespace Go.Proofs.Yticbajagccemoaa
open Go.RowKit
set_option linter.unusedVariables false

/-- A slice of sources reads as these numbers. -/
def RdU (w : World) (A : Option Addr) (n : Nat) (L : List Nat) : Prop :=
  L.length = n ∧ n ≤ 9223372036854775807 ∧ (0 < n → ∃ b off, A = some ⟨b, off, none⟩ ∧ b < w.heap.size ∧ ∀ j, j < n → w.cell? ⟨b, off + j, none⟩ = some (.int .u32 ((L.getD j 0 : Nat) : Int)))
theorem RdU.below {w w' : World} {A : Option Addr} {n : Nat} {L : List Nat} (h : RdU w A n L) (hb : Below w.heap.size w w') : RdU w' A n L := by
  refine ⟨h.1, h.2.1, fun hn => ?_⟩
  obtain ⟨b, off, hA, hlt, hc⟩ := h.2.2 hn
  exact ⟨b, off, hA, Nat.lt_of_lt_of_le hlt hb.size, fun j hj => (hb.cell (p := ⟨b, off + j, none⟩) hlt).trans (hc j hj)⟩
theorem RdU.of_own {w : World} {base : Nat} {e : TypeId} {A : Option Addr} {n c : Nat} {L : List Nat} (h : w.ownsRow base e 1 (.slice A n c) n (ucells L)) : RdU w A n L := by
  have hl : L.length = n := by simpa [ucells_len] using h.1
  have hat := h
  rcases h.2 with ⟨hv, hn⟩ | ⟨g, cap, cur, hv, hb, hg, hnc, hcm, hcs, htake⟩
  · injection hv with h1 h2 h3
    subst h1
    exact ⟨hl, by omega, fun h => absurd h (by omega)⟩
  · injection hv with h1 h2 h3
    subst h1; subst h3
    refine ⟨hl, by simp only [maxLen] at hcm; omega, fun hn => ⟨g, 0, rfl, (Array.getElem?_eq_some_iff.1 hg).1, fun j hj => ?_⟩⟩
    rw [Nat.zero_add, hat.cellAt j (by omega), ucells_at (by omega)]

/-- The cells read as this packet. -/
def PkRd (w : World) (cs : List Value) (p : Pkt) : Prop := ∃ A a B b D d, cs = rtpC p.m p.ty p.sq p.st p.so (.slice A p.ot.length a) p.x p.pf (.slice B p.xt.length b) (.slice D p.pl.length d) p.pd ∧
  RdU w A p.ot.length p.ot ∧ RdS w B p.xt.length b p.xt ∧ RdS w D p.pl.length d p.pl
theorem PkRd.below {w w' : World} {cs : List Value} {p : Pkt} (h : PkRd w cs p) (hb : Below w.heap.size w w') : PkRd w' cs p := by
  obtain ⟨A, a, B, b, D, d, e, h1, h2, h3⟩ := h
  exact ⟨A, a, B, b, D, d, e, h1.below hb, h2.below hb, h3.below hb⟩
theorem PkRd.len {w : World} {cs : List Value} {p : Pkt} (h : PkRd w cs p) : cs.length = 11 := by
  obtain ⟨A, a, B, b, D, d, e, _⟩ := h
  subst e; rfl
theorem PkRd.one {w : World} {cs : List Value} {p : Pkt} (h : PkRd w cs p) : ∀ v ∈ cs, v.oneCell' = true := by
  obtain ⟨A, a, B, b, D, d, e, _⟩ := h
  subst e
  exact rtpC_one _ _ _ _ _ _ _ _ _ _ _ _ _ _ _ _ _
theorem PkOwn.rd {w : World} {b : Nat} {cs : List Value} {p : Pkt} (h : PkOwn w b cs p) : PkRd w cs p := by
  obtain ⟨A, a, B, b', D, d, e, h1, h2, h3⟩ := h
  exact ⟨A, a, B, b', D, d, e, RdU.of_own h1, RdS.of_own h2, RdS.of_own h3⟩

set_option maxRecDepth 100000 in
set_option maxHeartbeats 8000000 in
theorem same_any (cs1 cs2 : List Value) (p : Pkt) (w : World) (h1 : PkRd w cs1 p) (h2 : PkRd w cs2 p) :
    Calls Try.prog 11 #[.agg cs1.toArray, .agg cs2.toArray] w fun e w' => e = .returned (.bool true) ∧ Below w.heap.size w w' := by
  obtain ⟨A1, a1, B1, b1, D1, d1, e1, u1, x1, y1⟩ := h1
  obtain ⟨A2, a2, B2, b2, D2, d2, e2, u2, x2, y2⟩ := h2
  have HW : Hid (Below w.heap.size w ((w.alloc (.cells cs1.toArray 28)).alloc (.cells cs2.toArray 28)) ∧ BlkV ((w.alloc (.cells cs1.toArray 28)).alloc (.cells cs2.toArray 28)) w.heap.size 28 cs1 ∧ BlkV ((w.alloc (.cells cs1.toArray 28)).alloc (.cells cs2.toArray 28)) (w.heap.size + 1) 28 cs2) :=
    Lib.hid ⟨((Below.refl _ _).alloc (Nat.le_refl _) _).alloc (by simp) _, (BlkV.new _ _ _).alloc _, BlkV.new_at _ _ _ _ _ (by simp) rfl⟩
  subst e1; subst e2
  obtain ⟨m, ty, sq, st, so, U, x, pf, X, Y, pd⟩ := p
  simp only at u1 u2 x1 x2 y1 y2 HW ⊢
  have hul := u1.2.1
  obtain ⟨K, hK⟩ : ∃ K, K = U.length := ⟨_, rfl⟩
  rw [← hK] at u1 u2 hul
  simp only [← hK] at HW ⊢
  obtain ⟨cs1, hc1⟩ : ∃ cs1, cs1 = rtpC m ty sq st so (.slice A1 K a1) x pf (.slice B1 X.length b1) (.slice D1 Y.length d1) pd := ⟨_, rfl⟩
  obtain ⟨cs2, hc2⟩ : ∃ cs2, cs2 = rtpC m ty sq st so (.slice A2 K a2) x pf (.slice B2 X.length b2) (.slice D2 Y.length d2) pd := ⟨_, rfl⟩
  rw [← hc1, ← hc2] at HW ⊢
  have HU1 := Lib.hid u1
  have HU2 := Lib.hid u2
  have HX1 := Lib.hid x1
  have HX2 := Lib.hid x2
  have HY1 := Lib.hid y1
  have HY2 := Lib.hid y2
  have k15 : ((w.alloc (.cells cs1.toArray 28)).alloc (.cells cs2.toArray 28)).cell? ⟨w.heap.size, 5, none⟩ = some (.slice A1 K a1) := by rw [HW.out.2.1.cell, hc1]; rfl
  have k25 : ((w.alloc (.cells cs1.toArray 28)).alloc (.cells cs2.toArray 28)).cell? ⟨w.heap.size + 1, 5, none⟩ = some (.slice A2 K a2) := by rw [HW.out.2.2.cell, hc2]; rfl
  have HC1 := Lib.hid hc1
  have HC2 := Lib.hid hc2
  clear u1 u2 x1 x2 y1 y2 hc1 hc2 hK
  go_enter Try.func11, Try.ntmps11
  go_wp2
  go_loopw [5] (fun i wr => ∃ k : Nat, k ≤ K ∧ i = .int .i64 k ∧ Hid (Below w.heap.size w wr ∧ BlkV wr w.heap.size 28 cs1 ∧ BlkV wr (w.heap.size + 1) 28 cs2)) (fun i _ => K - (intOf i).toNat)
  case atStart => exact ⟨0, by omega, rfl, HW⟩
  case round =>
    obtain ⟨k, hk, rfl, HR⟩ := hrel
    have c15 : wr.cell? ⟨w.heap.size, 5, none⟩ = some (.slice A1 K a1) := by rw [HR.out.2.1.cell, HC1.out]; rfl
    have c25 : wr.cell? ⟨w.heap.size + 1, 5, none⟩ = some (.slice A2 K a2) := by rw [HR.out.2.2.cell, HC2.out]; rfl
    by_cases hkn : k < K
    · have hu1 := HU1.out
      have hu2 := HU2.out
      obtain ⟨g1, o1, rfl, hg1, hu1⟩ := hu1.2.2 (by omega)
      obtain ⟨g2, o2, rfl, hg2, hu2⟩ := hu2.2.2 (by omega)
      have e1 : wr.cell? ⟨g1, o1 + k, none⟩ = some (.int .u32 ((U.getD k 0 : Nat) : Int)) := (HR.out.1.cell (p := ⟨g1, o1 + k, none⟩) hg1).trans (hu1 k hkn)
      have e2 : wr.cell? ⟨g2, o2 + k, none⟩ = some (.int .u32 ((U.getD k 0 : Nat) : Int)) := (HR.out.1.cell (p := ⟨g2, o2 + k, none⟩) hg2).trans (hu2 k hkn)
      obtain ⟨z, hz⟩ : ∃ z : Int, z = ((U.getD k 0 : Nat) : Int) := ⟨_, rfl⟩
      rw [← hz] at e1 e2
      clear hz hu1 hu2 k15 k25
      go_wp2
      go_quiet (fail)
      have HR2 : Hid (Below w.heap.size w (wr.drewN nq) ∧ BlkV (wr.drewN nq) w.heap.size 28 cs1 ∧ BlkV (wr.drewN nq) (w.heap.size + 1) 28 cs2) := Lib.hid ⟨⟨HR.out.1.os, HR.out.1.tape, HR.out.1.output, HR.out.1.size, HR.out.1.block⟩, HR.out.2.1, HR.out.2.2⟩
      go_wp2
      go_roundw
      case rel => exact ⟨k + 1, by omega, by go_num, HR2⟩
      case measure => simp [intOf]; omega
    · have hke : k = K := by omega
      subst hke
      have r1 : ∀ j, wr.cell? ⟨w.heap.size, j, none⟩ = (rtpC m ty sq st so (.slice A1 k a1) x pf (.slice B1 X.length b1) (.slice D1 Y.length d1) pd)[j]? := fun j => by rw [HR.out.2.1.cell, HC1.out]
      have r2 : ∀ j, wr.cell? ⟨w.heap.size + 1, j, none⟩ = (rtpC m ty sq st so (.slice A2 k a2) x pf (.slice B2 X.length b2) (.slice D2 Y.length d2) pd)[j]? := fun j => by rw [HR.out.2.2.cell, HC2.out]
      have p0 : wr.cell? ⟨w.heap.size, 0, none⟩ = some (.bool m) := (r1 0).trans rfl
      have p1 : wr.cell? ⟨w.heap.size, 1, none⟩ = some (.int .u8 (ty : Int)) := (r1 1).trans rfl
      have p2 : wr.cell? ⟨w.heap.size, 2, none⟩ = some (.int .u16 (sq : Int)) := (r1 2).trans rfl
      have p3 : wr.cell? ⟨w.heap.size, 3, none⟩ = some (.int .u32 (st : Int)) := (r1 3).trans rfl
      have p4 : wr.cell? ⟨w.heap.size, 4, none⟩ = some (.int .u32 (so : Int)) := (r1 4).trans rfl
      have p6 : wr.cell? ⟨w.heap.size, 6, none⟩ = some (.bool x) := (r1 6).trans rfl
      have p7 : wr.cell? ⟨w.heap.size, 7, none⟩ = some (.int .u16 (pf : Int)) := (r1 7).trans rfl
      have p8 : wr.cell? ⟨w.heap.size, 8, none⟩ = some (.slice B1 X.length b1) := (r1 8).trans rfl
      have p9 : wr.cell? ⟨w.heap.size, 9, none⟩ = some (.slice D1 Y.length d1) := (r1 9).trans rfl
      have pa : wr.cell? ⟨w.heap.size, 10, none⟩ = some (.int .u8 (pd : Int)) := (r1 10).trans rfl
      have q0 : wr.cell? ⟨w.heap.size + 1, 0, none⟩ = some (.bool m) := (r2 0).trans rfl
      have q1 : wr.cell? ⟨w.heap.size + 1, 1, none⟩ = some (.int .u8 (ty : Int)) := (r2 1).trans rfl
      have q2 : wr.cell? ⟨w.heap.size + 1, 2, none⟩ = some (.int .u16 (sq : Int)) := (r2 2).trans rfl
      have q3 : wr.cell? ⟨w.heap.size + 1, 3, none⟩ = some (.int .u32 (st : Int)) := (r2 3).trans rfl
      have q4 : wr.cell? ⟨w.heap.size + 1, 4, none⟩ = some (.int .u32 (so : Int)) := (r2 4).trans rfl
      have q6 : wr.cell? ⟨w.heap.size + 1, 6, none⟩ = some (.bool x) := (r2 6).trans rfl
      have q7 : wr.cell? ⟨w.heap.size + 1, 7, none⟩ = some (.int .u16 (pf : Int)) := (r2 7).trans rfl
      have q8 : wr.cell? ⟨w.heap.size + 1, 8, none⟩ = some (.slice B2 X.length b2) := (r2 8).trans rfl
      have q9 : wr.cell? ⟨w.heap.size + 1, 9, none⟩ = some (.slice D2 Y.length d2) := (r2 9).trans rfl
      have qa : wr.cell? ⟨w.heap.size + 1, 10, none⟩ = some (.int .u8 (pd : Int)) := (r2 10).trans rfl
      have v1 : (convert 22 9 (.slice B1 X.length b1)).run Try.prog wr = .ok (.string (txt X)) wr := run_conv (HX1.out.below HR.out.1) _ _ 5 Try.underlying22 Try.underlying5 Try.underlying9
      have v2 : (convert 22 9 (.slice B2 X.length b2)).run Try.prog wr = .ok (.string (txt X)) wr := run_conv (HX2.out.below HR.out.1) _ _ 5 Try.underlying22 Try.underlying5 Try.underlying9
      have v3 : (convert 22 9 (.slice D1 Y.length d1)).run Try.prog wr = .ok (.string (txt Y)) wr := run_conv (HY1.out.below HR.out.1) _ _ 5 Try.underlying22 Try.underlying5 Try.underlying9
      have v4 : (convert 22 9 (.slice D2 Y.length d2)).run Try.prog wr = .ok (.string (txt Y)) wr := run_conv (HY2.out.below HR.out.1) _ _ 5 Try.underlying22 Try.underlying5 Try.underlying9
      clear r1 r2 k15 k25
      go_wp2
      go_ret
      exact ⟨rfl, HR.out.1⟩
end Go.Proofs.Yticbajagccemoaa
