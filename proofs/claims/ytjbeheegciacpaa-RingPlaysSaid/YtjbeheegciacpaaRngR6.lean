/- What the document's answers for layer 19 (tenailleref19) answer: packets forgotten. No statement is proved here. -/
import Derived.Test.YtjbeheegciacpaaRngR5
namespace Go.Proofs.Ytjbeheegciacpaa
open Go.RowKit
set_option linter.unusedVariables false

/-- Packets forgotten, its walk under way: so many are gone. -/
def For19 (w : World) (g : Nat) (P B : Int) (F : Nat → Prop) (L0 : List Pck) (i : Int) (k : Nat) (wx : World) : Prop :=
  ∃ (D L : List Pck) (vI vB : Value), Way19 w g P B F D L vI vB wx ∧ forG L i = forG L0 i ∧ k + L.length = L0.length
theorem forG_cons_yes {x : Pck} {r : List Pck} {i : Int} (h : x.1 < i) : forG (x :: r) i = forG r i := by simp [forG, h]
theorem forG_cons_no {x : Pck} {r : List Pck} {i : Int} (h : ¬ x.1 < i) : forG (x :: r) i = x :: r := by simp [forG, h]

set_option maxRecDepth 100000 in
theorem rforget_any19 (g : Nat) (P B i : Int) (D L : List Pck) (vI vB : Value) (w : World) (h : RRg 0 g P B D vI vB w) (hp : D.Perm L) (hs : Srt L) (hl : D.length ≤ 201) :
    Calls Try.prog 10 #[.pointer (some ⟨g, 0, none⟩), .int .i64 i] w fun e w' => e = .returned (.int .i64 ((L.length - (forG L i).length : Nat) : Int)) ∧ ∃ D' vI' vB', Way19 w g P B (FRg g vI vB) D' (forG L i) vI' vB' w' := by
  obtain ⟨F, hF⟩ : ∃ F, F = FRg g vI vB := ⟨_, rfl⟩
  have HFg : Hid (F g) := Lib.hid (by rw [hF]; exact .inl rfl)
  have H0 : Hid (For19 w g P B F L i 0 w) := Lib.hid ⟨D, L, vI, vB, ⟨h, hp, hs, Fr.refl _ _, fun k hk => .inl (by rw [hF]; exact hk)⟩, rfl, by omega⟩
  have hl0 : L.length ≤ 201 := by rw [← hp.length_eq]; exact hl
  obtain ⟨L0, hL0⟩ : ∃ L0, L0 = L := ⟨_, rfl⟩
  rw [← hL0] at H0 hl0 ⊢
  rw [← hF]
  clear h hp hs hF hL0 hl
  go_enter Try.func10, Try.ntmps10
  go_wp2
  go_loopw [5] (fun vn wr => ∃ k : Nat, k ≤ 201 ∧ vn = .int .i64 k ∧ Hid (For19 w g P B F L0 i k wr)) (fun _ wr => lenAt wr g)
  case atStart => exact ⟨0, by omega, rfl, H0⟩
  case round =>
    clear H0
    obtain ⟨k, hk, rfl, HK⟩ := hrel
    obtain ⟨D2, L2, vI, vB, hW, hfor, hlen2⟩ := HK.out
    clear HK
    obtain ⟨A5, c5, hv⟩ := own_formN hW.ring.own
    obtain ⟨M, hM⟩ : ∃ M, M = D2.length := ⟨_, rfl⟩
    rw [← hM] at hv
    subst hv
    have hc2 := hW.ring.c2
    have hlen : lenAt wr g = M := by simp [lenAt, hc2]
    have HLEN := Lib.hid hlen
    have HM := Lib.hid hM
    have hML : M = L2.length := by rw [hM]; exact hW.perm.length_eq
    have hMl : M ≤ 201 := by omega
    have HLe := Lib.hid hlen2
    have HFor := Lib.hid hfor
    clear hlen hlen2 hfor
    cases L2 with
    | nil =>
      have hM0 : M = 0 := by simpa using hML
      subst hM0
      have HF2 : Hid (∃ D' vI' vB', Way19 w g P B F D' (forG L0 i) vI' vB' wr) := Lib.hid (by
        have hW' : Way19 w g P B F D2 (forG L0 i) (.slice A5 0 c5) vB wr := by rw [← HFor.out]; exact hW
        exact ⟨_, _, _, hW'⟩)
      have HN : Hid ((k : Int) = ((L0.length - (forG L0 i).length : Nat) : Int)) := Lib.hid (by rw [← HFor.out]; have := HLe.out; simp [forG] at this ⊢; omega)
      clear hM hML HM hW
      go_wp2
      go_quiet (fail)
      go_wp2
      go_ret
      refine ⟨ret_i64R HN.out, ?_⟩
      obtain ⟨D', vI', vB', hh⟩ := HF2.out
      exact ⟨D', vI', vB', hh.below ⟨rfl, rfl, rfl, Nat.le_refl _, fun _ _ => rfl⟩⟩
    | cons x r =>
      obtain ⟨m, hm1, hm2, hm3, hm4⟩ := lst_perm hW.perm hW.srt
      have hmM : m < M := by omega
      have HL1 := Lib.hid (fun q => rleast_any19 0 g P B D2 _ vB (wr.drewN q) (hW.ring.drewN q) (by omega))
      rw [hm1] at HL1
      obtain ⟨k0, c', hv, _, _, hcell⟩ := own_ints hW.ring.own (by omega)
      injection hv with e1 e2 e3
      subst e1
      have hcm := hcell m hm2
      rw [getD_idx hm2, hm3] at hcm
      obtain ⟨y, hy⟩ : ∃ y, y = x.1 := ⟨_, rfl⟩
      rw [← hy] at hcm
      have hmi : (m : Int) < (M : Int) := by omega
      have hM0 : 0 < M := by omega
      have HY := Lib.hid hy
      have HW := Lib.hid hW
      have HML := Lib.hid hML
      clear hcell hy hM hML e2 e3
      by_cases hyi : y < i
      · have HD1 : Hid (∀ q, Calls Try.prog 23 #[.pointer (some ⟨g, 0, none⟩), .int .i64 m] (wr.drewN q) fun e w' => e = .returned (.tuple #[]) ∧ Hid (For19 w g P B F L0 i (k + 1) w' ∧ lenAt w' g = M - 1)) := Lib.hid fun q => by
          have hw3 := HW.out.below (w2 := wr.drewN q) ⟨rfl, rfl, rfl, Nat.le_refl _, fun _ _ => rfl⟩
          refine (rdrop_any19 0 g P B D2 _ vB m (wr.drewN q) hw3.ring (by have := HM.out; omega) hm2).mono ?_
          rintro e w' ⟨rfl, vI2, vB2, hr, hg⟩
          have hle : (D2.eraseIdx m).length = M - 1 := by rw [List.length_eraseIdx_of_lt hm2, ← HM.out]
          refine ⟨rfl, Lib.hid ⟨⟨_, r, vI2, vB2, hw3.dropped HFg.out hr hg hm4 (List.pairwise_cons.1 HW.out.srt).2, ?_, ?_⟩, ?_⟩⟩
          · rw [← HFor.out, forG_cons_yes (by rw [← HY.out]; exact hyi)]
          · have := HLe.out; simp at this; omega
          · obtain ⟨A6, c6, hv6⟩ := own_formN hr.own
            subst hv6
            have := hr.c2
            unfold lenAt
            rw [this, hle]
        have hk1 : k + 1 ≤ 201 := by have := HLe.out; simp at this; omega
        clear hW hm1 hm2 hm3 hm4 HW HFor HM HFg HY HLe HML
        go_wp2
        go_quiet ((go_at_call 22; exact Calls.quiet_of (HL1.out _)))
        have HL2 := Lib.hid (HL1.out nq)
        have HD2 : Hid (∀ q, Calls Try.prog 23 #[.pointer (some ⟨g, 0, none⟩), .int .i64 m] ((wr.drewN nq).drewN q) fun e w' => e = .returned (.tuple #[]) ∧ Hid (For19 w g P B F L0 i (k + 1) w' ∧ lenAt w' g = M - 1)) := Lib.hid fun q => by rw [World.drewN_drewN]; exact HD1.out _
        obtain ⟨W, hW⟩ : ∃ W, W = wr.drewN nq := ⟨_, rfl⟩
        rw [← hW] at HL2 HD2 ⊢
        clear hW HL1 HD1 hc2 hcm
        go_wp2_with (first
          | (go_at_call 22; ((with_reducible refine (Hid.out HL2).mono ?_); rintro e w5 ⟨rfl, q5, rfl⟩))
          | (go_at_call 23; ((with_reducible refine (Hid.out HD2 _).mono ?_); rintro e w6 ⟨rfl, HK6⟩)))
        go_roundw
        case rel => exact ⟨k + 1, hk1, by go_num, Lib.hid HK6.out.1⟩
        case measure => rw [HK6.out.2, HLEN.out]; omega
      · have hyi' : i ≤ y := by omega
        have HF2 : Hid (∃ D' vI' vB', Way19 w g P B F D' (forG L0 i) vI' vB' wr) := Lib.hid (by
          have hW' : Way19 w g P B F D2 (forG L0 i) (.slice (some ⟨k0, 0, none⟩) M c5) vB wr := by rw [← HFor.out, forG_cons_no (by rw [← HY.out]; exact hyi)]; exact hW
          exact ⟨_, _, _, hW'⟩)
        have HN : Hid ((k : Int) = ((L0.length - (forG L0 i).length : Nat) : Int)) := Lib.hid (by
          rw [← HFor.out, forG_cons_no (by rw [← HY.out]; exact hyi)]; have := HLe.out; omega)
        clear hm1 hm2 hm3 hm4 HW HFor HM HFg HY HLe hW HML
        go_wp2
        go_quiet ((go_at_call 22; exact Calls.quiet_of (HL1.out _)))
        go_wp2
        go_ret
        refine ⟨ret_i64R HN.out, ?_⟩
        obtain ⟨D', vI', vB', hh⟩ := HF2.out
        exact ⟨D', vI', vB', hh.below ⟨rfl, rfl, rfl, Nat.le_refl _, fun _ _ => rfl⟩⟩
end Go.Proofs.Ytjbeheegciacpaa
