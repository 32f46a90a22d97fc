/- Contracts of package ring: where an index stands (seek). No statement is proved here. -/
import Derived.Test.YtjbeheegciacpaaRngP1
namespace Go.Proofs.Ytjbeheegciacpaa
open Go.RowKit Go.Sort
set_option linter.unusedVariables false

/-- Where package sort's Search and its types stand in this program. -/
def seekRen : Go.Shelf.Ren := ⟨fun n => if n = 16 then 26 else 0, fun n => if n = 3 then 3 else if n = 4 then 4 else if n = 35 then 57 else if n = 38 then 60 else 0, fun x => x⟩
theorem seek_lays : SlLaysO.n16 Try.prog seekRen where
  mixed := by kernel_rfl
  f16 := by kernel_rfl
  t3 := by kernel_rfl
  a3 := fun w => by kernel_rfl
  z3 := fun w => by kernel_rfl
  v3 := fun w => by kernel_rfl
  t4 := by kernel_rfl
  a4 := fun w => by kernel_rfl
  z4 := fun w => by kernel_rfl
  v4 := fun w => by kernel_rfl
  t35 := by kernel_rfl
  a35 := fun w => by kernel_rfl
  z35 := fun w => by kernel_rfl
  v35 := fun w => by kernel_rfl
  t38 := by kernel_rfl
  a38 := fun w => by kernel_rfl
  z38 := fun w => by kernel_rfl
  v38 := fun w => by kernel_rfl

set_option maxHeartbeats 2000000 in
theorem seekf_any (ba bx g b off n c k : Nat) (x y : Int) (W : World) (hk : k < n) (ha : W.cell? ⟨ba, 0, none⟩ = some (.pointer (some ⟨g, 0, none⟩))) (hg : W.cell? ⟨g, 2, none⟩ = some (.slice (some ⟨b, off, none⟩) n c))
    (hx : W.cell? ⟨bx, 0, none⟩ = some (.int .i64 x)) (hc : W.cell? ⟨b, off + k * 2, none⟩ = some (.int .i64 y)) :
    Calls Try.prog 27 (#[.int .i64 k] ++ #[.pointer (some ⟨ba, 0, none⟩), .pointer (some ⟨bx, 0, none⟩)]) W fun e w' => e = .returned (.bool (decide (x ≤ y))) ∧ ∃ q, w' = W.drewN q := by
  have hiz : (k : Int) < (n : Int) := by omega
  go_enter Try.func27, Try.ntmps27
  go_wp2
  go_quiet (fail)
  go_wp2
  go_ret
  exact ⟨rfl, _, rfl⟩

theorem bel_drewN (B : Nat) (w : World) (q : Nat) : Below B w (w.drewN q) := ⟨rfl, rfl, rfl, Nat.le_refl _, fun _ _ => rfl⟩
theorem ret_pair19 {a b : Int} {x y : Bool} (h : a = b) (h2 : x = y) : Ending.returned (.tuple #[.int .i64 a, .bool x]) = .returned (.tuple #[.int .i64 b, .bool y]) := by rw [h, h2]
set_option maxHeartbeats 4000000 in
set_option maxRecDepth 100000 in
theorem seek_any (w : World) (g : Nat) (s : Rgs) (A : Option Addr) (c : Nat) (X : List Pks) (F : Nat → Prop) (i : Int) (h : RAt w g s A c X F) (hs : Srt s.L) :
    Calls Try.prog 20 #[.pointer (some ⟨g, 0, none⟩), .int .i64 i] w fun e w' => e = .returned (.tuple #[.int .i64 (lowL s.L i : Nat), .bool (decide (i ∈ s.L.map (·.1)))]) ∧ Hid (Below w.heap.size w w') := by
  obtain ⟨W0, hW0⟩ : ∃ W0, W0 = (w.alloc (.cells #[.pointer (some ⟨g, 0, none⟩)] 24)).alloc (.cells #[.int .i64 i] 2) := ⟨_, rfl⟩
  have hsize : W0.heap.size = w.heap.size + 1 + 1 := by rw [hW0]; simp
  have hB0 : Below w.heap.size w W0 := by rw [hW0]; exact ((Below.refl _ w).alloc (Nat.le_refl _) _).alloc (by simp) _
  have ca : W0.cell? ⟨w.heap.size, 0, none⟩ = some (.pointer (some ⟨g, 0, none⟩)) := by rw [hW0]; exact cell_alloc_sl _ (cell_new_sl w _ _)
  have cx : W0.cell? ⟨w.heap.size + 1, 0, none⟩ = some (.int .i64 i) := by rw [hW0]; have := cell_new_sl (w.alloc (.cells #[.pointer (some ⟨g, 0, none⟩)] 24)) (.int .i64 i) 2; rwa [World.size_alloc] at this
  have h0 := h.below hB0
  have hlen := h.len
  have hsz : s.L.length < 4611686018427387904 := by have := h.few; omega
  have hL : ∀ k (hk : k < X.length) (hk2 : k < s.L.length), X[k].1.1 = (s.L[k]'hk2).1 := fun k hk hk2 => by simp [← h.eq]
  have eg : ∀ args w, (callFunc 27 args).run Try.prog w = .ok (.enter 27 args) w := enters_of Try.func27 (by kernel_rfl) rfl
  have hS := Any.sort_Search seek_lays 27 #[.pointer (some ⟨w.heap.size, 0, none⟩), .pointer (some ⟨w.heap.size + 1, 0, none⟩)] s.L.length (fun k => decide (lowL s.L i ≤ k)) W0 eg hsz
    (fun m os k hk => by
      have hX : k < X.length := by omega
      obtain ⟨b, off, hA, hb, h1, _⟩ := h0.row.at0 hX
      have hc2 := h0.c2
      rw [hA] at hc2
      have hg : g < W0.heap.size := h0.low _ h0.own
      rw [← lowL_is hs i k (by omega), ← hL k hX hk]
      exact (seekf_any w.heap.size (w.heap.size + 1) g b off _ c k i _ _ hk (cell_grown (by simp [hsize]; omega) ca m os) (cell_grown (by simpa using hg) hc2 m os) (cell_grown (by simp [hsize]) cx m os) (cell_grown (by simpa using hb) h1 m os)).mono
        fun _ _ ⟨he, q, hq⟩ => ⟨he, q, #[], by rw [hq, grow_empty]⟩)
    (fun a b hab hb h => by simp at h ⊢; omega)
  rw [count_low _ _ (lowL_le i s.L)] at hS
  replace hS := hS.mono (R' := fun e w' => e = .returned (.int .i64 (lowL s.L i : Nat)) ∧ Hid (Below W0.heap.size W0 w')) (fun e w' ⟨he, q, os, hw⟩ => ⟨he, Lib.hid (by rw [hw]; exact below_grown_sl _ W0 q os (Nat.le_refl _))⟩)
  change Calls Try.prog 26 _ _ _ at hS
  have hle := lowL_le i s.L
  have htm := low_there hs i
  have hz0 : ⟨w.heap.size, 0, none⟩ = (⟨w.heap.size, 0, none⟩ : Addr) := rfl
  have hrest : ∀ w', Below W0.heap.size W0 w' → Below w.heap.size w w' := fun w' hb => hB0.trans (hb.mono hB0.size)
  have hrow : ∀ w', Below W0.heap.size W0 w' → RAt w' g s A c X F := fun w' hb => h0.below hb
  have hbox : ∀ w', Below W0.heap.size W0 w' → w'.cell? ⟨w.heap.size, 0, none⟩ = some (.pointer (some ⟨g, 0, none⟩)) := fun w' hb => (hb.cell (by show w.heap.size < _; omega)).trans ca
  have hbx2 : ∀ w', Below W0.heap.size W0 w' → w'.cell? ⟨w.heap.size + 1, 0, none⟩ = some (.int .i64 i) := fun w' hb => (hb.cell (by show w.heap.size + 1 < _; omega)).trans cx
  have c2 := h0.c2
  rw [hW0] at c2
  have HB := Lib.hid hrest
  have HR := Lib.hid hrow
  have HX1 := Lib.hid hbox
  have HX2 := Lib.hid hbx2
  have hyes : ∀ (m : Nat) (hk : m < X.length), m = lowL s.L i → decide ((X[m]'hk).1.1 = i) = decide (i ∈ s.L.map (·.1)) := fun m hk e => by
    subst e
    rw [decide_eq_decide, htm, hL _ hk (by omega)]
    exact ⟨fun e => ⟨by omega, e⟩, fun ⟨_, e⟩ => e⟩
  have hno : lowL s.L i = s.L.length → decide (i ∈ s.L.map (·.1)) = false := fun e => decide_eq_false (fun hm => by obtain ⟨h1, _⟩ := htm.1 hm; omega)
  have HT := Lib.hid hyes
  have HL := Lib.hid hno
  have HS := Lib.hid hS
  have HW := Lib.hid hW0
  obtain ⟨n, hn⟩ : ∃ n, n = s.L.length := ⟨_, rfl⟩
  obtain ⟨m, hm⟩ : ∃ m, m = lowL s.L i := ⟨_, rfl⟩
  rw [← hm, ← hn] at HS
  rw [← hm]
  rw [← hm, ← hn] at hle
  rw [← hn] at c2 hlen hsz
  have c2d := c2
  have HN := Lib.hid hn
  have HM := Lib.hid hm
  have hgs : g ≠ w.heap.size := by have := h.low _ h.own; omega
  have hgs2 : g ≠ w.heap.size + 1 := by have := h.low _ h.own; omega
  clear hrest hrow hbox hbx2 htm hL hyes hno hS hW0 hn hm h h0 hB0 ca cx eg hs
  go_enter Try.func20, Try.ntmps20
  go_wp2_with (go_at_call 26; rw [← HW.out]; refine HS.out.mono ?_; rintro e wq ⟨rfl, hb⟩)
  have hQ := HR.out wq hb.out
  have hq1 := HX1.out wq hb.out
  have hq2 := HX2.out wq hb.out
  have hq3 := hQ.c2
  rw [← HN.out] at hq3
  have HQ := Lib.hid (HB.out wq hb.out)
  have HQ2 := Lib.hid hQ
  clear hQ hb
  by_cases hlt : m < n
  · obtain ⟨b, off, hA, _, hy, _⟩ := HQ2.out.row.at0 (k := m) (by omega)
    subst hA
    have hlti : (m : Int) < (n : Int) := by omega
    have hld : decide ((m : Int) < (n : Int)) = true := decide_eq_true hlti
    have E1 := Lib.hid (HT.out m (by omega) HM.out)
    obtain ⟨y, ey⟩ : ∃ y, y = X[m].1.1 := ⟨_, rfl⟩
    rw [← ey] at hy E1
    clear ey HT HL HM HN HQ2
    go_quiet (fail)
    go_wp2
    go_ret2
    exact ⟨ret_pair19 rfl E1.out, Lib.hid (HQ.out.trans (bel_drewN _ _ _))⟩
  · have hme : m = n := by omega
    have hld : decide ((m : Int) < (n : Int)) = false := decide_eq_false (by omega)
    have E1 := Lib.hid (HL.out (by rw [← HM.out, ← HN.out]; exact hme))
    clear HT HL HM HN HQ2 hme
    go_quiet (fail)
    go_wp2
    go_ret2
    exact ⟨ret_pair19 rfl E1.out.symm, Lib.hid (HQ.out.trans (bel_drewN _ _ _))⟩
end Go.Proofs.Ytjbeheegciacpaa
