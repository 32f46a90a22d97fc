/- Contract of package ring: Put. No statement is proved here. -/
import Derived.Test.YtjbeheegciacpaaRngP4
namespace Go.Proofs.Ytjbeheegciacpaa
open Go.RowKit Go.Sort
set_option linter.unusedVariables false

theorem Mid.sized {w wx : World} {g : Nat} {s : Rgs} {F : Nat → Prop} {L1 : List Pck} (h : Mid w g s F L1 wx) (hg : F g) : RWay w g s.P s.B F L1 (wx.setCell ⟨g, 3, none⟩ (.int .i64 (sizD L1 : Nat))) := by
  obtain ⟨A, c, X, F', h1, h2, h3, h4⟩ := h
  exact ⟨A, c, X, F', h2, h3.trans (Fr.of_only (F := F) (Only.set wx g 3 _) hg) (fun k hk => .inl hk), h4⟩
theorem Mid.c3 {w wx : World} {g : Nat} {s : Rgs} {F : Nat → Prop} {L1 : List Pck} (h : Mid w g s F L1 wx) : wx.cell? ⟨g, 3, none⟩ = some (.int .i64 (sizD s.L : Nat)) ∧ wx.frozen? ⟨g, 3, none⟩ = false ∧ g < wx.heap.size := by
  obtain ⟨A, c, X, F', h1, _⟩ := h
  exact ⟨(h1.cell 3).trans rfl, h1.frozen 3, h1.lt⟩

set_option maxHeartbeats 4000000 in
set_option maxRecDepth 100000 in
/-- Put, refused. -/
theorem put19_no (w : World) (g : Nat) (s : Rgs) (A : Option Addr) (c : Nat) (X : List Pks) (F : Nat → Prop) (i : Int) (Ab : Option Addr) (n cb : Nat) (b : List UInt8) (h : RAt w g s A c X F) (hs : Srt s.L) (hr : RdS w Ab n cb b) (hlp : (s.L.length : Int) ≤ s.P) (hno : putE s.P s.B s.L i b ≠ 0) :
    Calls Try.prog 11 #[.pointer (some ⟨g, 0, none⟩), .int .i64 i, .slice Ab n cb] w fun e w' => e = .returned (.int .i64 (putE s.P s.B s.L i b)) ∧ Hid (Below w.heap.size w w') := by
  have hc1 := h.c1
  have hlen := hr.len
  have hS := seek_any w g s A c X F i h hs
  unfold putE at hno ⊢
  rw [hlen] at hno ⊢
  clear hlen
  by_cases h1 : i < 0
  · rw [if_pos h1] at hno ⊢
    clear h hs hr hS hno
    go_enter Try.func11, Try.ntmps11
    go_wp2
    go_ret
    exact ⟨rfl, Lib.hid (Below.refl _ _)⟩
  rw [if_neg h1] at hno ⊢
  have hsm := hr.small
  by_cases h2 : s.B < (n : Int)
  · rw [if_pos h2] at hno ⊢
    clear h hs hr hS hno
    go_enter Try.func11, Try.ntmps11
    go_wp2
    go_ret
    exact ⟨rfl, Lib.hid (Below.refl _ _)⟩
  rw [if_neg h2] at hno ⊢
  have h3 : i ∈ s.L.map (·.1) ∨ ((s.L.length : Int) = s.P ∧ i < (s.L.map (·.1)).headD 0) := by
    by_cases h3 : i ∈ s.L.map (·.1) ∨ ((s.L.length : Int) = s.P ∧ i < (s.L.map (·.1)).headD 0)
    · exact h3
    · rw [if_neg h3] at hno; exact absurd rfl hno
  rw [if_pos h3]
  clear hno
  have hP := h.rooms.1
  have hC : Hid (∀ w1, Below w.heap.size w w1 → w1.cell? ⟨g, 0, none⟩ = some (.int .i64 s.P) ∧ w1.cell? ⟨g, 2, none⟩ = some (.slice A s.L.length c)) := Lib.hid (fun w1 hb => ⟨(h.below hb).c0, (h.below hb).c2⟩)
  have hfew := h.few
  have hle := lowL_le i s.L
  by_cases h4 : i ∈ s.L.map (·.1)
  · rw [decide_eq_true h4] at hS
    have HS := Lib.hid hS
    obtain ⟨m, hm⟩ : ∃ m, m = lowL s.L i := ⟨_, rfl⟩
    rw [← hm] at HS
    clear h hs hr hS h3 h4 hm hle hC
    go_enter Try.func11, Try.ntmps11
    go_wp2_with (go_at_call 20; ((with_reducible refine HS.out.mono ?_); rintro e w1 ⟨rfl, hb⟩))
    go_quiet (fail)
    go_wp2
    go_ret
    exact ⟨rfl, Lib.hid (hb.out.trans (bel_drewN _ _ _))⟩
  · rw [decide_eq_false h4] at hS
    have HS := Lib.hid hS
    obtain ⟨h5, h6⟩ := h3.resolve_left h4
    have hm : lowL s.L i = 0 := by
      cases e : s.L with
      | nil => rfl
      | cons x r =>
        rw [e] at h6
        rw [lowL_cons, if_neg (by simp at h6; omega)]
    rw [hm] at HS
    obtain ⟨N, hN⟩ : ∃ N, N = s.L.length := ⟨_, rfl⟩
    rw [← hN] at h5 hC hfew
    have hge : decide ((N : Int) ≥ s.P) = true := decide_eq_true (by omega)
    have hge2 : decide (s.P ≤ (N : Int)) = true := decide_eq_true (by omega)
    have hge3 : s.P ≤ (N : Int) := by omega
    have HPP := Lib.hid h5
    clear h hs hr hS h3 h4 hm hle hN h6 h5 hlp
    go_enter Try.func11, Try.ntmps11
    go_wp2_with (go_at_call 20; ((with_reducible refine HS.out.mono ?_); rintro e w1 ⟨rfl, hb⟩; obtain ⟨k0, k2⟩ := hC.out w1 hb.out))
    go_quiet (fail)
    go_wp2
    go_ret
    exact ⟨rfl, Lib.hid (hb.out.trans (bel_drewN _ _ _))⟩
end Go.Proofs.Ytjbeheegciacpaa
