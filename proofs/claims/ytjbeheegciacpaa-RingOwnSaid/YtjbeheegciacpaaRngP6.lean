/- Contract of package ring: Put, a packet kept. No statement is proved here. -/
import Derived.Test.YtjbeheegciacpaaRngP5
import Derived.Deep.DeepCutAuto
import Derived.Deep.RegionLaw
namespace Go.Proofs.Ytjbeheegciacpaa
open Go.RowKit Go.Sort
set_option linter.unusedVariables false

set_option maxHeartbeats 4000000 in
set_option maxRecDepth 100000 in
theorem put19_ok (w : World) (g : Nat) (s : Rgs) (A : Option Addr) (c : Nat) (X : List Pks) (F : Nat → Prop) (i : Int) (Ab : Option Addr) (n cb : Nat) (b : List UInt8) (h : RAt w g s A c X F) (hs : Srt s.L) (hr : RdS w Ab n cb b) (hlp : (s.L.length : Int) ≤ s.P) (hok : putE s.P s.B s.L i b = 0) (hfew : s.L.length ≤ 200) (hz : sizD s.L + n ≤ 1000000000) :
    Calls Try.prog 11 #[.pointer (some ⟨g, 0, none⟩), .int .i64 i, .slice Ab n cb] w fun e w' => e = .returned (.int .i64 0) ∧ Hid (RWay w g s.P s.B F (putG s.P s.B s.L i b) w') := by
  have hc1 := h.c1
  have hlen := hr.len
  have hS := seek_any w g s A c X F i h hs
  unfold putG
  rw [if_pos hok]
  unfold putE at hok
  rw [hlen] at hok
  have h1 : 0 ≤ i := by
    by_cases h1 : i < 0
    · rw [if_pos h1] at hok; omega
    · omega
  rw [if_neg (by omega)] at hok
  have h2 : (n : Int) ≤ s.B := by
    by_cases h2 : s.B < (n : Int)
    · rw [if_pos h2] at hok; omega
    · omega
  rw [if_neg (by omega)] at hok
  have h3 : ¬ (i ∈ s.L.map (·.1) ∨ ((s.L.length : Int) = s.P ∧ i < (s.L.map (·.1)).headD 0)) := fun h3 => by
    rw [if_pos h3] at hok; omega
  have h4 : i ∉ s.L.map (·.1) := fun h => h3 (.inl h)
  rw [decide_eq_false h4] at hS
  have HS := Lib.hid hS
  have hP := h.rooms.1
  have hPm := h.rooms.2.1
  -- behind seek
  have hfull : lowL s.L i = 0 → (s.L.length : Int) < s.P := fun e => by
    rcases Int.lt_or_eq_of_le hlp with hx | hx
    · exact hx
    · refine absurd (.inr ⟨hx, ?_⟩) h3
      cases e2 : s.L with
      | nil => rw [e2] at hx; simp at hx; omega
      | cons x r =>
        rw [e2] at e h4
        rw [lowL_cons] at e
        have hxi : ¬ x.1 < i := fun hh => by rw [if_pos hh] at e; omega
        have hne : x.1 ≠ i := fun hh => h4 (by simp [hh])
        show i < x.1
        omega
  have hle := lowL_le i s.L
  have hlen2 := h.len
  have hC : Hid (∀ w1, Below w.heap.size w w1 → w1.cell? ⟨g, 0, none⟩ = some (.int .i64 s.P) ∧ w1.cell? ⟨g, 2, none⟩ = some (.slice A s.L.length c) ∧ RdS w1 Ab n cb b ∧ g < w1.heap.size) := Lib.hid (fun w1 hb => ⟨(h.below hb).c0, (h.below hb).c2, hr.below hb, (h.below hb).blk.lt⟩)
  have HI : Hid (∀ (w1 w2 : World) (A2 : Option Addr) (c2 : Nat), Below w.heap.size w w1 → w2.ownsRow w1.heap.size 5 1 (.slice A2 n c2) n (cells b) → Below w1.heap.size w1 w2 →
      Calls Try.prog 24 #[.slice A s.L.length c, .int .i64 (lowL s.L i : Nat), .slice (some ⟨w2.heap.size, 0, none⟩) 1 1] (w2.alloc (.cells #[.int .i64 i, .slice A2 n c2] 54)) fun e w3 => ∃ A3 c3, e = .returned (.slice A3 (s.L.length + 1) c3) ∧ w3.cell? ⟨g, 2, none⟩ = some (.slice A s.L.length c) ∧ w3.frozen? ⟨g, 2, none⟩ = false ∧ g < w3.heap.size ∧ Hid (Mid w g s F (insL (i, b) s.L) (w3.setCell ⟨g, 2, none⟩ (.slice A3 (s.L.length + 1) c3)))) := Lib.hid (fun w1 w2 A2 c2 hb1 hown hb2 => by
    have b2 : Below w.heap.size w w2 := hb1.trans (hb2.mono hb1.size)
    have ba : Below w.heap.size w (w2.alloc (.cells #[.int .i64 i, .slice A2 n c2] 54)) := b2.alloc b2.size _
    have hh := h.below ba
    have hK : ∀ a, A = some a → w2.heap.size ≠ a.block := fun a ha e => by
      have := h.low _ (h.ownr a ha).1
      have := b2.size
      omega
    have hI := ins_any (w2.alloc (.cells #[.int .i64 i, .slice A2 n c2] 54)) A c (lowL s.L i) w2.heap.size X ((i, b), A2, c2) hh.row (by omega) (by omega) (by
      have := BlkV.new w2 54 [.int .i64 i, .slice A2 n c2]
      unfold pkC
      simp only
      rw [hlen]
      exact this) hK
    rw [hlen2] at hI
    refine hI.mono fun e w3 ⟨A3, c3, e1, e2⟩ => ?_
    obtain ⟨k1, k2, k3⟩ := e2.out
    rw [hlen2] at e1
    have hM := mid_of (m := lowL s.L i) h hb1 (by rw [hlen]; exact hown) hb2 rfl k1 (by rw [hlen]; exact k2) (by rw [hlen]; exact k3) hfew (by rw [hlen]; exact hz)
    rw [show (insL (i, b) s.L).length = s.L.length + 1 by rw [(insL_perm _ _).length_eq]; rfl] at hM
    exact ⟨A3, c3, e1, (hM.2.cell 2).trans rfl, hM.2.frozen 2, hM.2.lt, Lib.hid hM.1⟩)
  have hL1 : (insL (i, b) s.L).length ≤ 201 := by rw [(insL_perm _ _).length_eq, List.length_cons]; omega
  have hz1 := sizD_ins i b s.L
  rw [hlen] at hz1
  obtain ⟨m, hm⟩ : ∃ m, m = lowL s.L i := ⟨_, rfl⟩
  obtain ⟨N, hN⟩ : ∃ N, N = s.L.length := ⟨_, rfl⟩
  obtain ⟨L1, hL⟩ : ∃ L1, L1 = insL (i, b) s.L := ⟨_, rfl⟩
  obtain ⟨z, hzz⟩ : ∃ z, z = sizD s.L := ⟨_, rfl⟩
  have HG := Lib.hid h.own
  have HB0 := h.rooms.2.2.1
  rw [← hm] at HS hfull hle
  rw [← hN] at hfull hle hC hlp hfew
  rw [← hzz] at hz hz1
  simp only [← hm, ← hN, ← hL] at HI
  rw [← hL] at hL1 hz1 ⊢
  have HM3 : Hid (∀ wx, Mid w g s F L1 wx → wx.cell? ⟨g, 3, none⟩ = some (.int .i64 z) ∧ wx.frozen? ⟨g, 3, none⟩ = false ∧ g < wx.heap.size) := Lib.hid (fun wx hx => by rw [hzz]; exact hx.c3)
  have HM4 : Hid (∀ wx, Mid w g s F L1 wx → RWay w g s.P s.B F L1 (wx.setCell ⟨g, 3, none⟩ (.int .i64 ((z + n : Nat) : Int)))) := Lib.hid (fun wx hx => by rw [← hz1]; exact hx.sized HG.out)
  clear hS hs hr hok h3 h4 hlen hlen2 hm hN hL hzz HG h
  go_enter Try.func11, Try.ntmps11
  go_wp2_with (go_at_call 20; ((with_reducible refine HS.out.mono ?_); rintro e w1 ⟨rfl, hb⟩; obtain ⟨k0, k2, k3, k4⟩ := hC.out w1 hb.out))
  go_upto_region 6 with (fail)
  go_cut [44] (fun v wx => v = .bool false ∧ Hid (∃ q, wx = w1.drewN q))
  case first =>
    by_cases hm0 : m = 0
    · subst hm0
      have hx := hfull rfl
      have hge : decide (s.P ≤ (N : Int)) = false := decide_eq_false (by omega)
      have hge3 : ¬ (s.P ≤ (N : Int)) := by omega
      clear hfull
      go_quiet (fail)
      go_wp2_with fail
      go_meet
      exact ⟨rfl, Lib.hid ⟨nq, rfl⟩⟩
    · have hm1 : ((m : Int) == 0) = false := by simpa using hm0
      clear hfull
      go_quiet (fail)
      go_wp2_with fail
      go_meet
      exact ⟨rfl, Lib.hid ⟨nq, rfl⟩⟩
  case rest =>
    obtain ⟨rfl, HQ⟩ := hcut
    have HBC : Hid (Below w.heap.size w wc) := Lib.hid (by obtain ⟨q, hq⟩ := HQ.out; rw [hq]; exact hb.out.trans (bel_drewN _ _ _))
    obtain ⟨W, hW⟩ : ∃ W, W = wc := ⟨_, rfl⟩
    rw [← hW] at HBC ⊢
    clear hW HQ k0 k2 k3 k4 hfull
    go_upto_region 8 with (fail)
    go_cut [] (fun wx => Hid (Mid w g s F L1 wx))
    case first =>
      have HBD : Hid (Below w.heap.size w W.drew) := Lib.hid (HBC.out.trans ⟨rfl, rfl, rfl, Nat.le_refl _, fun _ _ => rfl⟩)
      obtain ⟨k0, k2, k3, k4⟩ := hC.out W.drew HBD.out
      have HD := Lib.hid (dup19_any Ab n cb b W.drew k3 (by omega))
      clear k0 k3 HBC
      go_region_law (first
        | (go_simp; go_at_call 25; ((with_reducible refine HD.out.mono ?_); rintro e w2 ⟨A2, c2, rfl, hD⟩; have hI := HI.out W.drew w2 A2 c2 HBD.out hD.out.1 hD.out.2; have j2 := (hC.out w2 (HBD.out.trans (hD.out.2.mono HBD.out.size))).2.1; have j4 := (hC.out w2 (HBD.out.trans (hD.out.2.mono HBD.out.size))).2.2.2; have HI2 := Lib.hid hI; clear hI))
        | (go_simp; go_at_call 24; ((with_reducible refine HI2.out.mono ?_); rintro e w3 ⟨A3, c3, rfl, j5, j6, j7, HMD⟩)))
      all_goals (go_wp2_with fail; go_meet; exact HMD)
    case rest =>
      have HMD := hcut
      obtain ⟨W2, hW2⟩ : ∃ W2, W2 = wc := ⟨_, rfl⟩
      rw [← hW2] at HMD ⊢
      obtain ⟨j3, j4, j5⟩ := HM3.out W2 HMD.out
      have HWY := Lib.hid (HM4.out W2 HMD.out)
      have hadd : IntKind.i64.wrap ((z : Int) + (n : Int)) = ((z + n : Nat) : Int) := by rw [IntKind.wrap_i64]; omega
      clear hW2 HMD HI HM3 HM4 HBC hC HS hb
      go_upto_region 9 with (fail)
      go_wp2
      have h0 := hL1
      go_loopg [] (201 : Nat) (fun (k : Nat) wr => ∃ L2, Hid (fitL s.P s.B L2 = fitL s.P s.B L1 ∧ L2.length ≤ k ∧ RWay w g s.P s.B F L2 wr))
      case atStart => exact ⟨L1, Lib.hid ⟨rfl, hL1, HWY.out⟩⟩
      case round =>
        obtain ⟨L2, HR⟩ := hrel
        obtain ⟨e1, e2, A4, c4, X4, F4, hA, hf, hF⟩ := HR.out
        have k0 := hA.c0
        have k1 := hA.c1
        have k2 := hA.c2
        have k3 := hA.c3
        have hcut1 : 0 < L2.length → ∀ q, Calls Try.prog 21 #[.pointer (some ⟨g, 0, none⟩), .int .i64 1] (wr.drewN q) fun e w' => e = .returned (.tuple #[]) ∧ Hid (RWay w g s.P s.B F (L2.drop 1) w') := fun hp q =>
          (cut_any (wr.drewN q) g ⟨s.P, s.B, L2⟩ A4 c4 X4 F4 1 (hA.below (bel_drewN _ _ _)) hp).mono fun e w' ⟨r1, r2⟩ => ⟨r1, Lib.hid (RWay.cut (hf.drewN q) hF r2.out)⟩
        have hl2 : L2.length ≤ 201 := hA.few
        have hz2 : sizD L2 ≤ 1000000000 := hA.small
        have hover : (s.P < (L2.length : Int) ∨ s.B < (sizD L2 : Int)) → 0 < L2.length ∧ fitL s.P s.B (L2.drop 1) = fitL s.P s.B L2 := fun ho => by
          cases L2 with
          | nil => simp [sizD] at ho; omega
          | cons x r => exact ⟨by simp, (fitL_over ho).symm⟩
        have hdl : (L2.drop 1).length = L2.length - 1 := List.length_drop
        have HX : Hid ((s.P < (L2.length : Int) ∨ s.B < (sizD L2 : Int)) → 1 ≤ gk ∧ (∀ q, Calls Try.prog 21 #[.pointer (some ⟨g, 0, none⟩), .int .i64 1] (wr.drewN q) fun e w' => e = .returned (.tuple #[]) ∧ ∃ L3, Hid (fitL s.P s.B L3 = fitL s.P s.B L1 ∧ L3.length ≤ gk - 1 ∧ RWay w g s.P s.B F L3 w'))) := Lib.hid (fun ho => by
          obtain ⟨o1, o2⟩ := hover ho
          refine ⟨by omega, fun q => (hcut1 o1 q).mono fun e w' ⟨r1, r2⟩ => ⟨r1, _, Lib.hid ⟨o2.trans e1, by omega, r2.out⟩⟩⟩)
        have HE : Hid (¬ (s.P < (L2.length : Int) ∨ s.B < (sizD L2 : Int)) → ∀ q, RWay w g s.P s.B F (fitL s.P s.B L1) (wr.drewN q)) := Lib.hid (fun ho q => by
          rw [← e1, fitL_fits ho]
          exact ⟨A4, c4, X4, F4, hA.below (bel_drewN _ _ _), hf.drewN q, hF⟩)
        obtain ⟨M, hM⟩ : ∃ M, M = L2.length := ⟨_, rfl⟩
        obtain ⟨Z, hZ⟩ : ∃ Z, Z = sizD L2 := ⟨_, rfl⟩
        simp only at k0 k1 k2 k3
        rw [← hM] at k2 HX HE hl2
        rw [← hZ] at k3 HX HE hz2
        clear hA hf hF hcut1 hover HR e1 e2 hdl hM hZ h0 j3 j4 HWY hadd hc1
        by_cases g1 : s.P < (M : Int)
        · obtain ⟨hk, hC⟩ := HX.out (.inl g1)
          have HC := Lib.hid hC
          have gd1 : decide (s.P < (M : Int)) = true := decide_eq_true g1
          clear HX HE hC
          go_upto_region 10 with (fail)
          go_quiet (fail)
          go_wp2_with (go_at_call 21; ((with_reducible refine (HC.out _).mono ?_); rintro e w5 ⟨rfl, L3, hL3⟩))
          go_roundg (gk - 1)
          case rel => exact ⟨L3, hL3⟩
          case measure => omega
        · have gd1 : decide (s.P < (M : Int)) = false := decide_eq_false g1
          by_cases g2 : s.B < (Z : Int)
          · obtain ⟨hk, hC⟩ := HX.out (.inr g2)
            have HC := Lib.hid hC
            have gd2 : decide (s.B < (Z : Int)) = true := decide_eq_true g2
            clear HX HE hC
            go_upto_region 10 with (fail)
            go_quiet (fail)
            go_wp2_with (go_at_call 21; ((with_reducible refine (HC.out _).mono ?_); rintro e w5 ⟨rfl, L3, hL3⟩))
            go_roundg (gk - 1)
            case rel => exact ⟨L3, hL3⟩
            case measure => omega
          · have gd2 : decide (s.B < (Z : Int)) = false := decide_eq_false g2
            have HE2 := Lib.hid (HE.out (fun h => h.elim g1 g2))
            clear HX HE
            go_upto_region 10 with (fail)
            go_quiet (fail)
            go_wp2
            go_ret
            exact ⟨rfl, Lib.hid (HE2.out _)⟩
end Go.Proofs.Ytjbeheegciacpaa
