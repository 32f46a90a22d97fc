/- The walk of the statement RtcpLosses, where the program's Nacked and Losses tell what the document's do. No statement is proved here. -/
import Derived.Test.YtacaempcbdekaaaDoorRtcpArg
namespace Go.Proofs.YtacaempcbdekaaaDoor
open Go.RowKit
set_option linter.unusedVariables false

theorem nk1_fit (x : Nat × Nat) (h : x.1 < 65536) : ∀ y ∈ nk1 x, y < 65536 := by
  intro y hy
  unfold nk1 nkT at hy
  rcases List.mem_cons.1 hy with rfl | hy
  · exact h
  · obtain ⟨k, _, hk⟩ := List.mem_filterMap.1 hy
    split at hk
    · injection hk with hk; omega
    · cases hk
theorem nkL_fit (l : List (Nat × Nat)) (h : ∀ a ∈ l, a.1 < 65536 ∧ a.2 < 65536) : ∀ y ∈ nkL l, y < 65536 := by
  intro y hy
  obtain ⟨a, ha, hya⟩ := List.mem_flatMap.1 hy
  exact nk1_fit a (h a ha).1 y hya
/-- A slice of numbers that isn't empty, read at a place in whatever world comes later. -/
theorem RdH.at_ {w : World} {A : Option Addr} {n : Nat} {L : List Nat} (h : RdH w A n L) (hn : 0 < n) : ∃ b off, A = some ⟨b, off, none⟩ ∧ ∀ wx, Below w.heap.size w wx → ∀ j, j < n → wx.cell? ⟨b, off + j, none⟩ = some (.int .u16 ((L.getD j 0 : Nat) : Int)) := by
  obtain ⟨b, off, hA, hlt, hc⟩ := h.2.2.2 hn
  exact ⟨b, off, hA, fun wx hb j hj => (hb.cell (p := ⟨b, off + j, none⟩) hlt).trans (hc j hj)⟩
theorem RdL.at_ {w : World} {A : Option Addr} {n : Nat} {L : List (Nat × Nat)} (h : RdL w A n L) (hn : 0 < n) : ∃ b off, A = some ⟨b, off, none⟩ ∧ ∀ wx, Below w.heap.size w wx → ∀ j, j < n → wx.cell? ⟨b, off + j * 2, none⟩ = some (.int .u16 (((L.getD j (0, 0)).1 : Nat) : Int)) ∧ wx.cell? ⟨b, off + j * 2 + 1, none⟩ = some (.int .u16 (((L.getD j (0, 0)).2 : Nat) : Int)) := by
  obtain ⟨b, off, hA, hlt, hc⟩ := h.2.2.2 hn
  exact ⟨b, off, hA, fun wx hb j hj => ⟨(hb.cell (p := ⟨b, off + j * 2, none⟩) hlt).trans (hc j hj).1, (hb.cell (p := ⟨b, off + j * 2 + 1, none⟩) hlt).trans (hc j hj).2⟩⟩
/-- The first i numbers rise. -/
def riseTo (l : List Nat) (i : Nat) : Prop := ∀ j, j + 1 < i → l.getD j 0 < l.getD (j + 1) 0
theorem riseTo_one (l : List Nat) : riseTo l 1 := fun j hj => absurd hj (by omega)
theorem riseTo_succ (l : List Nat) (i : Nat) (h : 1 ≤ i) : riseTo l (i + 1) ↔ riseTo l i ∧ l.getD (i - 1) 0 < l.getD i 0 := by
  constructor
  · intro hr
    refine ⟨fun j hj => hr j (by omega), ?_⟩
    have := hr (i - 1) (by omega)
    rw [show i - 1 + 1 = i by omega] at this
    exact this
  · intro hr j hj
    rcases Nat.lt_or_ge (j + 1) i with h1 | h1
    · exact hr.1 j h1
    · obtain rfl : j = i - 1 := by omega
      rw [show i - 1 + 1 = i by omega]
      exact hr.2
theorem draws (wx : World) (n : Nat) {B : Nat} {w : World} (h : Below B w wx) : Below B w (wx.drewN n) := h.trans ⟨rfl, rfl, rfl, Nat.le_refl _, fun _ _ => rfl⟩

/-- What Nacked of a package tells. -/
def TellsN (f : FuncId) : Prop := ∀ (A : Option Addr) (n c : Nat) (L : List (Nat × Nat)) (w : World), RdL w A n L → n ≤ 1000 → Calls Tryd.prog f #[.slice A n c] w fun e w' => ∃ A' c', e = .returned (.slice A' (nkL L).length c') ∧ w'.ownsRow w.heap.size 39 1 (.slice A' (nkL L).length c') (nkL L).length (hcells (nkL L)) ∧ Below w.heap.size w w'
/-- What Losses of a package tells. -/
def TellsL (f : FuncId) : Prop := ∀ (A : Option Addr) (n c : Nat) (L : List Nat) (w : World), RdH w A n L → n ≤ 1000 → Calls Tryd.prog f #[.slice A n c] w fun e w' => ∃ A' c', e = .returned (.slice A' (lsL L).length c') ∧ w'.ownsRow w.heap.size 41 2 (.slice A' (lsL L).length c') (lsL L).length (lcells (lsL L)) ∧ Below w.heap.size w w'
def Alive (w : World) : Prop := Calls Tryd.prog 6 #[] w fun e w' => e = .returned (.bool true) ∧ Below w.heap.size w w'

set_option maxRecDepth 100000 in
set_option maxHeartbeats 4000000 in
theorem rtcpLosses_big {w : World} (HA : Alive w) (a0 : Option Addr) (n0 c0 : Nat) (a1 : Option Addr) (n1 c1 : Nat) (hbig : ¬ (n0 ≤ 60 ∧ n1 ≤ 200)) :
    Calls Tryd.prog 5 #[.slice a0 n0 c0, .slice a1 n1 c1] w fun e w' => e = .returned (.bool true) ∧ Below w.heap.size w w' := by
  have HA : Hid (Calls Tryd.prog 6 #[] w fun e w' => e = .returned (.bool true) ∧ Below w.heap.size w w') := Lib.hid HA
  have hway : 60 < n0 ∨ (n0 ≤ 60 ∧ 200 < n1) := by omega
  clear hbig
  rcases hway with g1 | ⟨g1, g2⟩
  · go_enter Tryd.func5, Tryd.ntmps5
    go_wp2_with (go_at_call 6; ((with_reducible refine (Hid.out HA).mono ?_); rintro e w1 ⟨rfl, hb1⟩))
    go_ret
    exact ⟨rfl, hb1⟩
  · go_enter Tryd.func5, Tryd.ntmps5
    go_wp2_with (go_at_call 6; ((with_reducible refine (Hid.out HA).mono ?_); rintro e w1 ⟨rfl, hb1⟩))
    go_ret
    exact ⟨rfl, hb1⟩

set_option maxRecDepth 100000 in
set_option maxHeartbeats 4000000 in
theorem rtcpLosses_core {w : World} (HA : Alive w) (HN : TellsN 14) (HN2 : TellsN 15) (HL : TellsL 16) (HL2 : TellsL 17)
    (a0 : Option Addr) (n0 c0 : Nat) (L : List (Nat × Nat)) (a1 : Option Addr) (n1 c1 : Nat) (T : List Nat) (h0 : RdL w a0 n0 L) (h1 : RdH w a1 n1 T) (g1 : n0 ≤ 60) (g2 : n1 ≤ 200) :
    Calls Tryd.prog 5 #[.slice a0 n0 c0, .slice a1 n1 c1] w fun e w' => e = .returned (.bool true) ∧ Below w.heap.size w w' := by
  have HA : Hid (Calls Tryd.prog 6 #[] w fun e w' => e = .returned (.bool true) ∧ Below w.heap.size w w') := Lib.hid HA
  obtain ⟨M, hM⟩ : ∃ M, M = (nkL L).length := ⟨_, rfl⟩
  obtain ⟨K, hK⟩ : ∃ K, K = (lsL T).length := ⟨_, rfl⟩
  have lM : M ≤ 1020 := by have h3 := nkL_len L; have h2 := h0.1; omega
  have lK : K ≤ 200 := by have h3 := lsL_len T; have h2 := h1.1; omega
  have C1 := Lib.hid (fun wx hx => HN a0 n0 c0 L wx hx (by omega))
  have C2 := Lib.hid (fun wx hx => HN2 a0 n0 c0 L wx hx (by omega))
  have C3 := Lib.hid (fun wx hx => HL a1 n1 c1 T wx hx (by omega))
  have C4 := Lib.hid (fun wx hx => HL2 a1 n1 c1 T wx hx (by omega))
  have C5 := Lib.hid (fun A c wx hx => HN A K c (lsL T) wx hx (by omega))
  have FN := Lib.hid (nkL_fit L h0.2.2.1)
  have FL := Lib.hid (lsL_fit T h1.2.2.1)
  have FB := Lib.hid (nkL_fit (lsL T) (lsL_fit T h1.2.2.1))
  have HT := Lib.hid h1.2.2.1
  have HTn := Lib.hid h1.1
  have LB := nkL_len (lsL T)
  rw [← hK] at LB
  rw [← hM] at C1 C2
  rw [← hK] at C3 C4
  have H0 := Lib.hid h0
  have H1 := Lib.hid h1
  clear hM hK h0 h1 HN HN2 HL HL2
  go_enter Tryd.func5, Tryd.ntmps5
  go_wp2_with (first
    | (go_at_call 6; ((with_reducible refine (Hid.out HA).mono ?_); rintro e w1 ⟨rfl, hb1⟩; have f1 := Lib.hid hb1; clear hb1))
    | (go_at_call 14; ((with_reducible refine (Hid.out C1 _ (H0.out.below f1.out)).mono ?_); rintro e w2 ⟨A5, q5, rfl, ho2, hb2⟩; have f2 := Lib.hid (f1.out.trans (hb2.mono f1.out.size)); have o5 := Lib.hid (RdH.of_own ho2 FN.out); clear hb2 ho2))
    | (go_at_call 15; ((with_reducible refine (Hid.out C2 _ (H0.out.below f2.out)).mono ?_); rintro e w3 ⟨A6, q6, rfl, ho3, hb3⟩; have f3 := Lib.hid (f2.out.trans (hb3.mono f2.out.size)); have o6 := Lib.hid (RdH.of_own ho3 FN.out); have p5 := Lib.hid (o5.out.below hb3); clear hb3 ho3))
    | (go_at_call 16; ((with_reducible refine (Hid.out C3 _ (H1.out.below f3.out)).mono ?_); rintro e w4 ⟨A7, q7, rfl, ho4, hb4⟩; have f4 := Lib.hid (f3.out.trans (hb4.mono f3.out.size)); have o7 := Lib.hid (RdL.of_own ho4 FL.out); have p6 := Lib.hid (o6.out.below hb4); have r5 := Lib.hid (p5.out.below hb4); clear hb4 ho4))
    | (go_at_call 17; ((with_reducible refine (Hid.out C4 _ (H1.out.below f4.out)).mono ?_); rintro e w5 ⟨A8, q8, rfl, ho5, hb5⟩; have f5 := Lib.hid (f4.out.trans (hb5.mono f4.out.size)); have s8 := Lib.hid (RdL.of_own ho5 FL.out); have s7 := Lib.hid (o7.out.below hb5); have s6 := Lib.hid (p6.out.below hb5); have s5 := Lib.hid (r5.out.below hb5); clear hb5 ho5)))
  have b5 := Lib.hid (Below.refl w5.heap.size w5)
  go_loopw [9] (fun i wx => ∃ k : Nat, k ≤ M ∧ i = .int .i64 k ∧ Hid (Below w5.heap.size w5 wx)) (fun i _ => M - (intOf i).toNat)
  case atStart => exact ⟨0, by omega, rfl, b5⟩
  case round =>
    obtain ⟨k, hk, rfl, HB⟩ := hrel
    by_cases hkn : k < M
    · obtain ⟨x5, y5, rfl, e5⟩ := s5.out.at_ (by omega)
      obtain ⟨x6, y6, rfl, e6⟩ := s6.out.at_ (by omega)
      have t5 := e5 wr HB.out k hkn
      have t6 := e6 wr HB.out k hkn
      clear e5 e6
      go_wp2
      go_quiet (fail)
      have h3 := Lib.hid (draws wr nq HB.out)
      generalize wr.drewN nq = wq at h3 ⊢
      go_wp2
      go_roundw
      case rel => exact ⟨k + 1, by omega, by go_num, h3⟩
      case measure => simp [intOf]; omega
    · have hke : k = M := by omega
      subst hke
      go_wp2
      go_loopw [11] (fun i wx => ∃ k : Nat, k ≤ K ∧ i = .int .i64 k ∧ Hid (Below w5.heap.size w5 wx)) (fun i _ => K - (intOf i).toNat)
      case atStart => exact ⟨0, by omega, rfl, HB⟩
      case round =>
        clear HB
        obtain ⟨k2, hk2, rfl, HB⟩ := hrel
        by_cases hkn2 : k2 < K
        · obtain ⟨x7, y7, rfl, e7⟩ := s7.out.at_ (by omega)
          obtain ⟨x8, y8, rfl, e8⟩ := s8.out.at_ (by omega)
          obtain ⟨t7, t7'⟩ := e7 wr HB.out k2 hkn2
          obtain ⟨t8, t8'⟩ := e8 wr HB.out k2 hkn2
          clear e7 e8
          go_wp2
          go_quiet (fail)
          have h3 := Lib.hid (draws wr nq HB.out)
          generalize wr.drewN nq = wq at h3 ⊢
          go_wp2
          go_roundw
          case rel => exact ⟨k2 + 1, by omega, by go_num, h3⟩
          case measure => simp [intOf]; omega
        · have hke2 : k2 = K := by omega
          subst hke2
          go_wp2
          have HT5 := Lib.hid (H1.out.below f5.out)
          go_loopw [10, 12] (fun vd vi wx => ∃ (i : Nat) (d : Bool), 1 ≤ i ∧ (i ≤ n1 ∨ i = 1) ∧ vd = .bool d ∧ vi = .int .i64 i ∧ Hid (d = true ↔ riseTo T i) ∧ Hid (Below w5.heap.size w5 wx)) (fun _ vi _ => n1 - (intOf vi).toNat)
          case atStart => exact ⟨1, true, by omega, .inr rfl, rfl, rfl, Lib.hid (by simp [riseTo_one]), HB⟩
          case round =>
            clear HB
            obtain ⟨i, d, hi1, hi2, rfl, rfl, Hd, HB⟩ := hrel
            by_cases hin : i < n1
            · have HS := Lib.hid (riseTo_succ T i hi1)
              cases hd : d
              · subst hd
                have Hd2 : Hid (false = true ↔ riseTo T (i + 1)) := Lib.hid ⟨fun h => absurd h (by decide), fun h => Hd.out.2 (HS.out.1 h).1⟩
                go_wp2
                go_quiet (fail)
                have h3 := Lib.hid (draws wr nq HB.out)
                generalize wr.drewN nq = wq at h3 ⊢
                go_wp2
                go_roundw
                case rel => exact ⟨i + 1, false, by omega, by omega, rfl, by go_num, Hd2, h3⟩
                case measure => simp [intOf]; omega
              · subst hd
                obtain ⟨xt, yt, rfl, et⟩ := HT5.out.at_ (by omega)
                have ti := et wr HB.out i hin
                obtain ⟨p, hp⟩ : ∃ p, p = i - 1 := ⟨_, rfl⟩
                have tp := et wr HB.out p (by omega)
                have e0 : IntKind.i64.wrap ((i : Int) - 1) = (p : Int) := by rw [IntKind.wrap_i64]; omega
                have hpn : p < n1 := by omega
                obtain ⟨u, hu⟩ : ∃ u, u = T.getD p 0 := ⟨_, rfl⟩
                obtain ⟨v, hv⟩ : ∃ v, v = T.getD i 0 := ⟨_, rfl⟩
                rw [← hu] at tp
                rw [← hv] at ti
                have HS2 : Hid (riseTo T (i + 1) ↔ riseTo T i ∧ u < v) := Lib.hid (by rw [HS.out, hu, hv, hp])
                clear hp hu hv et HS
                by_cases huv : u < v
                · have Hd2 : Hid (true = true ↔ riseTo T (i + 1)) := Lib.hid (by rw [HS2.out]; exact ⟨fun _ => ⟨Hd.out.1 rfl, huv⟩, fun _ => rfl⟩)
                  go_wp2
                  go_quiet (fail)
                  have h3 := Lib.hid (draws wr nq HB.out)
                  generalize wr.drewN nq = wq at h3 ⊢
                  go_wp2
                  go_roundw
                  case rel => exact ⟨i + 1, true, by omega, by omega, rfl, by go_num, Lib.hid ⟨fun _ => Hd2.out.1 (by trivial), fun _ => rfl⟩, h3⟩
                  case measure => simp [intOf]; omega
                · have Hd2 : Hid (false = true ↔ riseTo T (i + 1)) := Lib.hid (by rw [HS2.out]; exact ⟨fun h => absurd h (by decide), fun h => absurd h.2 huv⟩)
                  go_wp2
                  go_quiet (fail)
                  have h3 := Lib.hid (draws wr nq HB.out)
                  generalize wr.drewN nq = wq at h3 ⊢
                  go_wp2
                  go_roundw
                  case rel => exact ⟨i + 1, false, by omega, by omega, rfl, by go_num, Hd2, h3⟩
                  case measure => simp [intOf]; omega
            · have HR : Hid (d = true ↔ rises T) := Lib.hid (by
                rw [Hd.out]
                have hl := HTn.out
                constructor
                · intro h j hj; exact h j (by omega)
                · intro h j hj; exact h j (by omega))
              have s7' := Lib.hid (s7.out.below HB.out)
              have HT6 := Lib.hid (HT5.out.below HB.out)
              have f6 := Lib.hid (f5.out.trans (HB.out.mono f5.out.size))
              have C6 := Lib.hid (C5.out A7 q7 wr s7'.out)
              clear Hd
              cases hd : d
              · subst hd
                go_wp2_with (go_at_call 14; ((with_reducible refine (Hid.out C6).mono ?_); rintro e w7 ⟨A9, q9, rfl, ho7, hb7⟩; have f7 := Lib.hid (f6.out.trans (hb7.mono f6.out.size)); clear hb7 ho7))
                go_ret
                exact ⟨rfl, f7.out⟩
              · subst hd
                have heq : nkL (lsL T) = T := nk_ls T HT.out (HR.out.1 rfl)
                have hl : T.length = n1 := HTn.out
                rw [heq, hl] at C6
                clear heq hl
                go_wp2_with (go_at_call 14; ((with_reducible refine (Hid.out C6).mono ?_); rintro e w7 ⟨A9, q9, rfl, ho7, hb7⟩; have f7 := Lib.hid (f6.out.trans (hb7.mono f6.out.size)); have o9 := Lib.hid (RdH.of_own ho7 HT.out); have HT7 := Lib.hid (HT6.out.below hb7); clear hb7 ho7))
                have b7 := Lib.hid (Below.refl w7.heap.size w7)
                go_loopw [14] (fun i wx => ∃ k : Nat, k ≤ n1 ∧ i = .int .i64 k ∧ Hid (Below w7.heap.size w7 wx)) (fun i _ => n1 - (intOf i).toNat)
                case atStart => exact ⟨0, by omega, rfl, b7⟩
                case round =>
                  clear HB
                  obtain ⟨k4, hk4, rfl, HB⟩ := hrel
                  by_cases hkn4 : k4 < n1
                  · obtain ⟨x9, y9, rfl, e9⟩ := o9.out.at_ (by omega)
                    obtain ⟨xt, yt, rfl, et⟩ := HT7.out.at_ (by omega)
                    have t9 := e9 wr HB.out k4 hkn4
                    have tt := et wr HB.out k4 hkn4
                    clear e9 et
                    go_wp2
                    go_quiet (fail)
                    have h3 := Lib.hid (draws wr nq HB.out)
                    generalize wr.drewN nq = wq at h3 ⊢
                    go_wp2
                    go_roundw
                    case rel => exact ⟨k4 + 1, by omega, by go_num, h3⟩
                    case measure => simp [intOf]; omega
                  · have hke4 : k4 = n1 := by omega
                    subst hke4
                    go_wp2
                    go_ret
                    exact ⟨rfl, f7.out.trans (HB.out.mono f7.out.size)⟩

/-- The walk, over what the program's functions tell. -/
theorem rtcpLosses_walkP {w : World} (HA : Alive w) (HN : TellsN 14) (HL : TellsL 16)
    (a0 : Option Addr) (n0 c0 : Nat) (a1 : Option Addr) (n1 c1 : Nat) (h0 : ∃ L, RdL w a0 n0 L) (h1 : ∃ T, RdH w a1 n1 T) :
    Calls Tryd.prog 5 #[.slice a0 n0 c0, .slice a1 n1 c1] w fun e w' => e = .returned (.bool true) ∧ Below w.heap.size w w' := by
  obtain ⟨L, h0⟩ := h0
  obtain ⟨T, h1⟩ := h1
  by_cases hb : n0 ≤ 60 ∧ n1 ≤ 200
  · exact rtcpLosses_core HA HN rnacked_any HL rlosses_any a0 n0 c0 L a1 n1 c1 T h0 h1 hb.1 hb.2
  · exact rtcpLosses_big HA a0 n0 c0 a1 n1 c1 hb
end Go.Proofs.YtacaempcbdekaaaDoor
