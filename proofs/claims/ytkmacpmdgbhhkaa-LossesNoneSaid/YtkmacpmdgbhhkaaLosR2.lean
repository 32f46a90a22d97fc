/- What the document's answers for layer 20 (tenailleref20) answer: a place dropped, the walk. No statement is proved here. -/
import Derived.Test.YtkmacpmdgbhhkaaLosR1
namespace Go.Proofs.Ytkmacpmdgbhhkaa
open Go.RowKit
set_option linter.unusedVariables false

theorem own_stepK {w : World} {base n g2 : Nat} {e ty : TypeId} {v : Value} {xs cs : List Value} (h : w.ownsRow base e 1 v n xs) (hB : BlkV w g2 ty cs) (hne : e ≠ ty) (j : Nat) (u : Value) : (w.setCell ⟨g2, j, none⟩ u).ownsRow base e 1 v n xs :=
  own_fr h (Fr.of_only (F := fun k => k = g2) (Only.set _ _ _ _) rfl) (fun k hk hf => own_ne h hB hne (by rw [hk, hf]))

set_option maxRecDepth 100000 in
theorem rdrop_any20 (base g : Nat) (s : Kpr) (vI vT vN : Value) (a : Nat) (w : World) (h : RKp base g s vI vT vN w) (hl : s.M.length ≤ 1000) (ha : a < s.M.length) :
    Calls Try.prog 25 #[.pointer (some ⟨g, 0, none⟩), .int .i64 a] w fun e w' => e = .returned (.tuple #[]) ∧ ∃ vI' vT' vN', RKp w.heap.size g { s with M := s.M.eraseIdx a } vI' vT' vN' w' ∧ w.grownBy w' (some g) := by
  obtain ⟨A1, k1, hv1⟩ := own_formN h.oi
  obtain ⟨A2, k2, hv2⟩ := own_formN h.ot
  obtain ⟨A3, k3, hv3⟩ := own_formN h.on
  subst hv1; subst hv2; subst hv3
  have hgl := h.lt
  have hT := fun wx (hb : Below w.heap.size w wx) => h.below hb
  obtain ⟨D, hD⟩ : ∃ D, D = s.M := ⟨_, rfl⟩
  obtain ⟨n, hn⟩ : ∃ n, n = D.length := ⟨_, rfl⟩
  rw [← hD] at ha hl
  rw [← hn] at ha hl
  have hnM : n = s.M.length := by rw [hn, hD]
  have HC : Hid (∀ wx, Below w.heap.size w wx → wx.cell? ⟨g, 2, none⟩ = some (.slice A1 n k1) ∧ wx.cell? ⟨g, 3, none⟩ = some (.slice A2 n k2) ∧ wx.cell? ⟨g, 4, none⟩ = some (.slice A3 n k3)) := Lib.hid fun wx hb => by rw [hnM]; exact ⟨(hT wx hb).c2, (hT wx hb).c3, (hT wx hb).c4⟩
  have HR : Hid (∃ b1 b2 b3, A1 = some ⟨b1, 0, none⟩ ∧ A2 = some ⟨b2, 0, none⟩ ∧ A3 = some ⟨b3, 0, none⟩ ∧ ∀ wx, Below w.heap.size w wx → ∀ k (hk : k < D.length), wx.cell? ⟨b1, k, none⟩ = some (.int .i64 D[k].i) ∧ wx.cell? ⟨b2, k, none⟩ = some (.int .i64 D[k].t) ∧ wx.cell? ⟨b3, k, none⟩ = some (.int .i64 D[k].n)) := Lib.hid (by
    obtain ⟨b1, d1, e1, _, l1, c1⟩ := own_ints h.oi (by omega)
    obtain ⟨b2, d2, e2, _, l2, c2⟩ := own_ints h.ot (by omega)
    obtain ⟨b3, d3, e3, _, l3, c3⟩ := own_ints h.on (by omega)
    injection e1 with e1 _ _
    injection e2 with e2 _ _
    injection e3 with e3 _ _
    refine ⟨b1, b2, b3, e1, e2, e3, fun wx hb k hk => ?_⟩
    have q1 := c1 k (by omega)
    have q2 := c2 k (by omega)
    have q3 := c3 k (by omega)
    rw [← hD] at q1 q2 q3
    have f1 : (D.map (·.i)).getD k 0 = D[k].i := by simp [List.getD, hk]
    have f2 : (D.map (·.t)).getD k 0 = D[k].t := by simp [List.getD, hk]
    have f3 : (D.map (·.n)).getD k 0 = D[k].n := by simp [List.getD, hk]
    rw [f1] at q1
    rw [f2] at q2
    rw [f3] at q3
    exact ⟨(hb.cell (p := ⟨b1, k, none⟩) l1).trans q1, (hb.cell (p := ⟨b2, k, none⟩) l2).trans q2, (hb.cell (p := ⟨b3, k, none⟩) l3).trans q3⟩)
  have HT := Lib.hid hT
  have HN := Lib.hid hn
  have HD := Lib.hid hD
  have hc2 := (HC.out w (Below.refl _ _)).1
  clear h hT hn hD hnM
  go_enter Try.func25, Try.ntmps25
  go_wp2
  go_loopw [4, 5, 6, 7] (fun v1 v2 v3 vi wr => ∃ (k m : Nat) (B1 B2 B3 : Option Addr) (d1 d2 d3 : Nat), k ≤ n ∧ m ≤ k ∧ v1 = .slice B1 m d1 ∧ v2 = .slice B2 m d2 ∧ v3 = .slice B3 m d3 ∧ vi = .int .i64 k ∧ Hid (Tri20 w (.slice B1 m d1) (.slice B2 m d2) (.slice B3 m d3) m ((D.take k).eraseIdx a) wr)) (fun _ _ _ i _ => n - (intOf i).toNat)
  case atStart => exact ⟨0, 0, none, none, none, 0, 0, 0, by omega, by omega, rfl, rfl, rfl, rfl, Lib.hid ⟨by simpa [icells] using World.ownsRow_nil w _ _ _, by simpa [icells] using World.ownsRow_nil w _ _ _, by simpa [icells] using World.ownsRow_nil w _ _ _, fun k hk => by simp [Value.ownBlock] at hk, Below.refl _ _⟩⟩
  case round =>
    clear hc2
    obtain ⟨k, m, B1, B2, B3, d1, d2, d3, hk, hm, rfl, rfl, rfl, rfl, HL⟩ := hrel
    have hb0 := HL.out.below
    have hc2 := (HC.out wr hb0).1
    have hsz := hb0.size
    by_cases hlt : k < n
    · have hki : (k : Int) < (n : Int) := by omega
      have hkl : k < D.length := by rw [← HN.out]; exact hlt
      have hst := erase_nextK D a k hkl
      by_cases hka : k = a
      · subst hka
        rw [if_pos rfl, List.append_nil] at hst
        have HL2 : Hid (Tri20 w (.slice B1 m d1) (.slice B2 m d2) (.slice B3 m d3) m ((D.take (k + 1)).eraseIdx k) wr) := Lib.hid (by rw [hst]; exact HL.out)
        clear hst HL hkl hb0
        go_wp2
        go_roundw
        case rel => exact ⟨k + 1, m, B1, B2, B3, d1, d2, d3, by omega, by omega, rfl, rfl, rfl, by go_num, HL2⟩
        case measure => simp [intOf]; omega
      · rw [if_neg hka] at hst
        have hkb : ((k : Int) != (a : Int)) = true := by simp; omega
        obtain ⟨b1, b2, b3, rfl, rfl, rfl, hcc⟩ := HR.out
        have hx1 := (hcc wr hb0 k hkl).1
        obtain ⟨x, hx⟩ : ∃ x, x = D[k] := ⟨_, rfl⟩
        rw [← hx] at hst hx1
        have HX : Hid (∀ wx, Below w.heap.size w wx → wx.cell? ⟨b2, k, none⟩ = some (.int .i64 x.t) ∧ wx.cell? ⟨b3, k, none⟩ = some (.int .i64 x.n)) := Lib.hid fun wx hb => by rw [hx]; exact (hcc wx hb k hkl).2
        obtain ⟨xi, xt, xn⟩ := x
        simp only at hx1 HX
        have HST := Lib.hid hst
        clear hx hcc hst hb0 hkl
        go_wp2_with (first
          | (at_builtin; refine wpList_appV rfl (.tmp 20) (.tmp 28) e64K rfl w.heap.size (.slice B1 m d1) m (icells (((D.take k).eraseIdx a).map (·.i))) rfl (HL.out.a.alloc _) wr.heap.size rfl [.int .i64 xi] rfl (by simp [Value.oneCell']) (BlkV.new wr 2 [.int .i64 xi]) (by omega) (by simp; omega) ?_; intro u1 w2 hown hg hnw; obtain ⟨C1, q1, hv3⟩ := own_formN hown; subst hv3; have K2 := HL.out.first hg hnw; have hc3 := (HC.out w2 K2.1).2.2; have hx3 := (HX.out w2 K2.1).2; have hsz2 := K2.1.size; have HO := Lib.hid hown; have HK := Lib.hid K2; clear K2 hown hg hnw)
          | (at_builtin; refine wpList_appV rfl (.tmp 30) (.tmp 38) e64K rfl w.heap.size (.slice B2 m d2) m (icells (((D.take k).eraseIdx a).map (·.n))) rfl (HK.out.2.1.alloc _) w2.heap.size rfl [.int .i64 xn] rfl (by simp [Value.oneCell']) (BlkV.new w2 2 [.int .i64 xn]) (by omega) (by simp; omega) ?_; intro u2 w3 hown3 hg3 hnw3; obtain ⟨C2, q2, hv4⟩ := own_formN hown3; subst hv4; have K3 := Tri20.second (y := xi) HO.out HK.out.1 HK.out.2.1 HK.out.2.2.1 HK.out.2.2.2 hg3 hnw3; have hc4 := (HC.out w3 K3.1).2.1; have hx4 := (HX.out w3 K3.1).1; have hsz3 := K3.1.size; have HO3 := Lib.hid hown3; have HK3 := Lib.hid K3; clear K3 hown3 hg3 hnw3)
          | (at_builtin; refine wpList_appV rfl (.tmp 40) (.tmp 48) eintK rfl w.heap.size (.slice B3 m d3) m (icells (((D.take k).eraseIdx a).map (·.t))) rfl (HK3.out.2.2.1.alloc _) w3.heap.size rfl [.int .i64 xt] rfl (by simp [Value.oneCell']) (BlkV.new w3 3 [.int .i64 xt]) (by omega) (by simp; omega) ?_; intro u3 w4 hown4 hg4 hnw4; obtain ⟨C3, q3, hv5⟩ := own_formN hown4; subst hv5; have HF := Lib.hid (Tri20.third (x := ⟨xi, xt, xn⟩) HK3.out.1 HK3.out.2.1 HO3.out HK3.out.2.2.1 HK3.out.2.2.2 hown4 hg4); clear hown4 hg4 hnw4))
        go_roundw
        case rel => exact ⟨k + 1, m + 1, C1, C2, C3, q1, q2, q3, by omega, by omega, rfl, rfl, rfl, by go_num, Lib.hid (by rw [HST.out]; exact HF.out)⟩
        case measure => simp [intOf]; omega
    · obtain rfl : k = n := by omega
      have hB := (HT.out wr hb0).blk
      have hf2 := hB.frozen 2
      have hf3 := hB.frozen 3
      have hf4 := hB.frozen 4
      have HTAKE : Hid (D.take k = D) := Lib.hid (List.take_of_length_le (by rw [← HN.out]; omega))
      have HL2 : Hid (Tri20 w (.slice B1 m d1) (.slice B2 m d2) (.slice B3 m d3) m (D.eraseIdx a) wr) := Lib.hid (by have := HL.out; rw [HTAKE.out] at this; exact this)
      have hm2 : m = (D.eraseIdx a).length := by
        have := HL2.out.a.1
        simpa [icells_len] using this.symm
      have HM := Lib.hid hm2
      have HB := Lib.hid hB
      clear hb0 hm2 HL hB
      have hc3 := (HC.out wr HL2.out.below).2.1
      have hc4 := (HC.out wr HL2.out.below).2.2
      go_wp2
      go_end0
      have n64 : (2 : TypeId) ≠ 41 := by decide
      have nin : (3 : TypeId) ≠ 41 := by decide
      have B2' := HB.out.set_ 2 (.slice B1 m d1)
      have B3' := B2'.set_ 4 (.slice B2 m d2)
      have r1 := own_stepK (own_stepK (own_stepK HL2.out.a HB.out n64 2 (.slice B1 m d1)) B2' n64 4 (.slice B2 m d2)) B3' n64 3 (.slice B3 m d3)
      have r2 := own_stepK (own_stepK (own_stepK HL2.out.b HB.out n64 2 (.slice B1 m d1)) B2' n64 4 (.slice B2 m d2)) B3' n64 3 (.slice B3 m d3)
      have r3 := own_stepK (own_stepK (own_stepK HL2.out.c HB.out nin 2 (.slice B1 m d1)) B2' nin 4 (.slice B2 m d2)) B3' nin 3 (.slice B3 m d3)
      refine ⟨rfl, .slice B1 m d1, .slice B3 m d3, .slice B2 m d2, ⟨B3'.set_ 3 _, ?_, ?_, ?_, HL2.out.ne⟩, ?_⟩
      · show World.ownsRow _ _ _ _ _ (s.M.eraseIdx a).length (icells ((s.M.eraseIdx a).map (·.i)))
        rw [← HD.out, ← HM.out]; exact r1
      · show World.ownsRow _ _ _ _ _ (s.M.eraseIdx a).length (icells ((s.M.eraseIdx a).map (·.t)))
        rw [← HD.out, ← HM.out]; exact r3
      · show World.ownsRow _ _ _ _ _ (s.M.eraseIdx a).length (icells ((s.M.eraseIdx a).map (·.n)))
        rw [← HD.out, ← HM.out]; exact r2
      · exact grown_then (grown_then (grown_then (grown_of_below HL2.out.below (some g)) ((Only.set wr g 2 _).grown) (fun p hp => .inr (by injection hp with hp; exact hp.symm))) ((Only.set _ g 4 _).grown) (fun p hp => .inr (by injection hp with hp; exact hp.symm))) ((Only.set _ g 3 _).grown) (fun p hp => .inr (by injection hp with hp; exact hp.symm))
end Go.Proofs.Ytkmacpmdgbhhkaa
