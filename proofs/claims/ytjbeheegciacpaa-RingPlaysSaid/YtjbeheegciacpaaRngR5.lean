/- What the document's answers for layer 19 (tenailleref19) answer: a packet put that may be, the walk. No statement is proved here. -/
import Derived.Test.YtjbeheegciacpaaRngR4
import Derived.Deep.DeepCutAuto
namespace Go.Proofs.Ytjbeheegciacpaa
open Go.RowKit
set_option linter.unusedVariables false

/-- How long the slice in a cell is. -/
def lenAt (w : World) (g : Nat) : Nat := match w.cell? ⟨g, 2, none⟩ with | some (.slice _ n _) => n | _ => 0
/-- A packet put, its walk under way. -/
def Put19 (w : World) (g : Nat) (P B : Int) (F : Nat → Prop) (L1 : List Pck) (wx : World) : Prop :=
  ∃ (D L : List Pck) (vI vB : Value), Way19 w g P B F D L vI vB wx ∧ fitL P B L = fitL P B L1 ∧ D.length ≤ 201 ∧ sizD D ≤ 1000000000

set_option maxRecDepth 100000 in
theorem rput_ok19 (g : Nat) (P B i : Int) (D L : List Pck) (vI vB : Value) (A : Option Addr) (n c : Nat) (b : List UInt8) (w : World) (h : RRg 0 g P B D vI vB w) (hp : D.Perm L) (hs : Srt L) (hr : RdS w A n c b) (hoff : 0 < n → ∀ ad, A = some ad → ¬ FRg g vI vB ad.block) (hl : D.length ≤ 200) (hz : sizD D + n ≤ 1000000000) (hP : 1 ≤ P) (hB : 0 ≤ B) (hno : putE P B L i b = 0) :
    Calls Try.prog 12 #[.pointer (some ⟨g, 0, none⟩), .int .i64 i, .slice A n c] w fun e w' => e = .returned (.int .i64 0) ∧ ∃ D' vI' vB', Way19 w g P B (FRg g vI vB) D' (putG P B L i b) vI' vB' w' := by
  have hc0 := h.c0
  have hc1 := h.c1
  have hc2 := h.c2
  have hlen := hr.len
  have hns : n ≤ 9223372036854775807 := by have h1 := hr.2.1; have h2 := hr.2.2.1; simp only [maxLen] at h2; omega
  obtain ⟨AI, cI, hvI⟩ := own_formN h.own
  obtain ⟨N, hN⟩ : ∃ N, N = D.length := ⟨_, rfl⟩
  rw [← hN] at hvI
  subst hvI
  obtain ⟨AB, cB, hvB⟩ := own_formN h.owb
  rw [← hN] at hvB
  subst hvB
  unfold putG
  rw [if_pos hno]
  unfold putE at hno
  have h1 : 0 ≤ i := by
    by_cases h1 : i < 0
    · rw [if_pos h1] at hno; omega
    · omega
  rw [if_neg (by omega), hlen] at hno
  have h2 : (n : Int) ≤ B := by
    by_cases h2 : B < (n : Int)
    · rw [if_pos h2] at hno; omega
    · omega
  rw [if_neg (by omega)] at hno
  have h3 : ¬ (i ∈ L.map (·.1) ∨ ((L.length : Int) = P ∧ i < (L.map (·.1)).headD 0)) := by
    intro h3; rw [if_pos h3] at hno; omega
  have h4 : i ∉ L.map (·.1) := fun h => h3 (.inl h)
  have h4d : i ∉ D.map (·.1) := fun hm => h4 ((idx_perm hp).mem_iff.1 hm)
  have HA := Lib.hid (fun q => rat_any19 0 g P B D _ _ i (w.drewN q) (h.drewN q) (by omega))
  rw [atL_no h4d] at HA
  have hpL : (D ++ [(i, b)]).Perm (insL (i, b) L) := (List.perm_append_singleton _ _).trans ((hp.cons _).trans (insL_perm _ _).symm)
  have hsL : Srt (insL (i, b) L) := insL_srt hs h4
  have HW : Hid (∀ q, RRg 0 g P B D (.slice AI N cI) (.slice AB N cB) (w.drewN q)) := Lib.hid fun q => h.drewN q
  have HL := Lib.hid (fun q => rleast_any19 0 g P B D _ _ (w.drewN q) (h.drewN q) (by omega))
  -- the place of the least one, if there may be no more
  have h5 : (D.length : Int) = P → ∃ (m k0 : Nat) (y : Int), AI = some ⟨k0, 0, none⟩ ∧ m < D.length ∧ lstK (D.map (·.1)) D.length = m ∧ w.cell? ⟨k0, m, none⟩ = some (.int .i64 y) ∧ y ≤ i := by
    intro hlp
    obtain ⟨x, r, rfl⟩ : ∃ x r, L = x :: r := by
      cases L with
      | nil => have := hp.length_eq; simp only [List.length_nil] at this; omega
      | cons x r => exact ⟨x, r, rfl⟩
    obtain ⟨m, hm1, hm2, hm3, _⟩ := lst_perm hp hs
    have hlp' : ((x :: r).length : Int) = P := by rw [← hp.length_eq]; exact hlp
    have hxi : x.1 ≤ i := by
      by_cases e : i < x.1
      · exact absurd (.inr ⟨hlp', by simpa using e⟩) h3
      · omega
    obtain ⟨k0, c', hv, _, _, hcell⟩ := own_ints h.own (by omega)
    injection hv with e1 e2 e3
    have hcm := hcell m hm2
    rw [getD_idx hm2, hm3] at hcm
    exact ⟨m, k0, x.1, e1, hm2, hm1, hcm, hxi⟩
  have H5 := Lib.hid h5
  have HP := Lib.hid (And.intro hpL hsL)
  have HRB : Hid (∀ wx, Fr (FRg g (.slice AI N cI) (.slice AB N cB)) w wx → RdS wx A n c b) := Lib.hid fun wx hf => hr.fr hf hoff
  have HZ : Hid (sizD (D ++ [(i, b)]) ≤ 1000000000) := Lib.hid (by rw [sizD_append]; simp only [sizD, List.map_cons, List.map_nil, List.sum_cons, List.sum_nil]; unfold sizD at hz; omega)
  have HN := Lib.hid hN
  clear h hno hs hp hr h3 h4 h4d hpL hsL hz h5 hoff
  rw [← hN] at hl
  clear hN
  have HOW : Hid (∀ q, (w.drewN q).ownsRow 0 2 1 (.slice AI N cI) N (icells (D.map (·.1)))) := Lib.hid fun q => by have := (HW.out q).own; rw [← HN.out] at this; exact this
  have HNP := Lib.hid hP
  have HNB := Lib.hid hB
  have H6 : (((N : Int) == P) = true ∧ ∃ (m k0 : Nat) (y : Int), AI = some ⟨k0, 0, none⟩ ∧ m < N ∧ lstK (D.map (·.1)) D.length = m ∧ w.cell? ⟨k0, m, none⟩ = some (.int .i64 y) ∧ y ≤ i) ∨ (((N : Int) == P) = false) := by
    by_cases hlp : (N : Int) = P
    · obtain ⟨m, k0, y, e1, hm, hm1, hcm, hyi⟩ := H5.out (by rw [← HN.out]; exact hlp)
      exact .inl ⟨by simpa using hlp, m, k0, y, e1, by rw [HN.out]; exact hm, hm1, hcm, hyi⟩
    · exact .inr (by simpa using hlp)
  clear H5
  have HS1 : Hid (sizD D ≤ 1000000000) := Lib.hid (by have := HZ.out; rw [sizD_append] at this; omega)
  go_enter Try.func12, Try.ntmps12
  go_wp2
  go_upto_region 5 with (fail)
  go_cut [43] (fun v wx => v = .bool false ∧ Hid (∃ q, wx = w.drewN q))
  case first =>
    rcases H6 with ⟨hlp, m, k0, y, rfl, hm, hm1, hcm, hyi⟩ | hlp
    · rw [hm1] at HL
      have hmi : (m : Int) < (N : Int) := by omega
      clear hm1
      go_quiet ((first
        | (go_at_call 14; exact Calls.quiet_of_same ((HA.out _).mono fun _ _ ⟨h, h2⟩ => ⟨h, h2.symm⟩))
        | (go_at_call 22; exact Calls.quiet_of (HL.out _))))
      go_wp2_with fail
      go_meet
      exact ⟨by simp; omega, Lib.hid ⟨nq, rfl⟩⟩
    · go_quiet ((first
        | (go_at_call 14; exact Calls.quiet_of_same ((HA.out _).mono fun _ _ ⟨h, h2⟩ => ⟨h, h2.symm⟩))
        | (go_at_call 22; exact Calls.quiet_of (HL.out _))))
      go_wp2_with fail
      go_meet
      exact ⟨rfl, Lib.hid ⟨nq, rfl⟩⟩
  case rest =>
    obtain ⟨rfl, HQ⟩ := hcut
    obtain ⟨nq, hnq⟩ := HQ.out
    have hW2 := (HW.out nq).c2
    have hWf := (HW.out nq).blk.frozen 2
    have HFW : Hid (Fr (FRg g (.slice AI N cI) (.slice AB N cB)) w (w.drewN nq)) := Lib.hid (.of_below (below_drewN (Below.refl _ _) _))
    have HR7 := Lib.hid (HW.out nq)
    have HO7 := Lib.hid (HOW.out nq)
    have HWZ : Hid (w.heap.size = (w.drewN nq).heap.size) := Lib.hid rfl
    rw [← hnq] at hW2 hWf HFW HR7 HO7 HWZ
    obtain ⟨W, hW⟩ : ∃ W, W = wc := ⟨_, rfl⟩
    rw [← hW] at hW2 hWf HFW HR7 HO7 HWZ ⊢
    clear hW hnq hc0 hc1 hc2 H6 HQ
    go_wp2_with (at_builtin; refine wpList_appV rfl (.tmp 48) (.tmp 50) e64R rfl 0 (.slice AI N cI) N (icells (D.map (·.1))) rfl (HO7.out.alloc _) W.heap.size rfl [.int .i64 i] rfl (by simp [Value.oneCell']) (BlkV.new W 2 [.int .i64 i]) (by omega) (Nat.zero_le _) ?_; intro v1 w2 hown hg hnew; obtain ⟨A3, c3, hv3⟩ := own_formN hown; subst hv3; have K7 := Lib.hid (Way19.putI HR7.out HFW.out (by rw [HWZ.out]; exact Nat.le_refl _) (by rw [← HN.out]; exact hown) hg hnew); have hk2 := (K7.out.1.cell 2); have hk3 := K7.out.1.frozen 2; simp only [List.getElem?_cons_succ, List.getElem?_cons_zero] at hk2; have HO8 := Lib.hid hown; clear hown hg hnew)
    go_upto_region 8 with (fail)
    go_cut [] (fun wx => Hid (Put19 w g P B (FRg g (.slice AI N cI) (.slice AB N cB)) (insL (i, b) L) wx))
    case first =>
      have K8 := Lib.hid (Way19.laidI (v1 := .slice A3 (N + 1) c3) K7.out (HO8.out))
      obtain ⟨W7, hW7⟩ : ∃ W7, W7 = w2.setCell ⟨g, 2, none⟩ (.slice A3 (N + 1) c3) := ⟨_, rfl⟩
      rw [← hW7] at K8 ⊢
      have hf1 := K7.out.2.2.2
      have HF1 := Lib.hid hf1
      have hk3' := K8.out.1.cell 3
      have hkf3 := K8.out.1.frozen 3
      simp only [List.getElem?_cons_succ, List.getElem?_cons_zero] at hk3'
      have hk3b : (W7.alloc (.cells #[.string (txt b)] 9)).drew.cell? ⟨g, 3, none⟩ = some (.slice AB N cB) := (((K8.out.1.alloc _).drew).cell 3).trans rfl
      have hcv : (convert 31 9 (.slice A n c)).run Try.prog W7.drew = .ok (.string (txt b)) W7.drew := run_conv (show RdS W7.drew A n c b from HRB.out _ (K8.out.2.2.2.then ((Below.refl _ _).drew))) _ _ 5 Try.underlying31 Try.underlying5 Try.underlying9
      have H7Z : Hid (w.heap.size ≤ W7.heap.size) := Lib.hid K8.out.2.2.2.size
      have HT1 : Hid (W7.ownsRow 0 9 1 (.slice AB N cB) N (tcells (D.map (·.2)))) := Lib.hid (by have h9 := K8.out.2.2.1; rw [← HN.out] at h9; exact h9)
      clear hW7 hk2 hk3 hf1 hW2 hWf K7
      go_region_law (refine step_appV (by rfl) (.tmp 58) (.tmp 61) estR (by rfl) 0 (.slice AB N cB) N (tcells (D.map (·.2))) (by rfl) (own_keep HT1.out (((Below.refl _ _).alloc (Nat.le_refl _) _).drew)) W7.heap.size (by rfl) [.string (txt b)] rfl (by simp [Value.oneCell']) ((BlkV.new W7 9 [.string (txt b)]).drew) (by omega) (Nat.zero_le _) ?_; intro v2 w8 hown hg hnew; obtain ⟨A4, c4, hv4⟩ := own_formN hown; subst hv4; have K9 := Way19.putB (P := P) (B := B) (L := insL (i, b) L) HN.out K8.out.1 K8.out.2.1 HT1.out K8.out.2.2.2 H7Z.out (.inl rfl) (fun k hk => HF1.out k hk) (fun k hk => .inr (.inr hk)) hown hg hnew HP.out.1 HP.out.2; have hk9 := K9.2.1; have hf9 := K9.2.2; have HK9 := Lib.hid K9.1; clear K9 hown hg hnew)
      all_goals (go_wp2_with fail)
      all_goals go_meet
      all_goals exact Lib.hid ⟨_, _, _, _, HK9.out, rfl, by rw [List.length_append, ← HN.out]; simp; omega, HZ.out⟩
    case rest =>
      clear HFW HR7 HO7 HWZ hW2 hWf hk2 hk3 K7 HO8 HOW HW HA HL HN HRB HP HZ HS1
      obtain ⟨F, hF⟩ : ∃ F, F = FRg g (.slice AI N cI) (.slice AB N cB) := ⟨_, rfl⟩
      have HFg : Hid (F g) := Lib.hid (by rw [hF]; exact .inl rfl)
      rw [← hF] at hcut
      obtain ⟨L1, hL1⟩ : ∃ L1, L1 = insL (i, b) L := ⟨_, rfl⟩
      rw [← hL1] at hcut
      have HFin : Hid (∀ D' L' vI' vB' wx, Way19 w g P B F D' L' vI' vB' wx → L' = fitL P B L1 → ∃ D' vI' vB', Way19 w g P B (FRg g (.slice AI N cI) (.slice AB N cB)) D' (fitL P B (insL (i, b) L)) vI' vB' wx) := Lib.hid fun D' L' vI' vB' wx h1 h2 => by
        rw [hL1] at h2
        rw [h2, hF] at h1
        exact ⟨D', vI', vB', h1⟩
      clear hF hL1 h1 h2 hns hlen hl
      go_wp2
      go_loopw [] (fun wr => Hid (Put19 w g P B F L1 wr)) (fun wr => lenAt wr g)
      case atStart => exact hcut
      case round =>
        clear hcut
        obtain ⟨D2, L2, vI, vB, hW, hfit, hl, hz⟩ := hrel.out
        clear hrel
        obtain ⟨A5, c5, hv⟩ := own_formN hW.ring.own
        obtain ⟨M, hM⟩ : ∃ M, M = D2.length := ⟨_, rfl⟩
        rw [← hM] at hv
        subst hv
        have hc0 := hW.ring.c0
        have hc1 := hW.ring.c1
        have hc2 := hW.ring.c2
        have hlen : lenAt wr g = M := by simp [lenAt, hc2]
        have HLEN := Lib.hid hlen
        have HM := Lib.hid hM
        have hMl : M ≤ 201 := by omega
        have HW := Lib.hid hW
        have HS := Lib.hid (fun q => rsize_any19 0 g P B D2 _ vB (wr.drewN q) (hW.ring.drewN q) (by omega) hz)
        obtain ⟨S, hS⟩ : ∃ S, S = sizD D2 := ⟨_, rfl⟩
        rw [← hS] at HS hz
        have HSz := Lib.hid hS
        have HFit := Lib.hid hfit
        clear hW hM hS hfit hlen hl
        obtain ⟨t, ht⟩ : ∃ t : Bool, t = decide (P < (M : Int) ∨ B < (S : Int)) := ⟨_, rfl⟩
        have HT := Lib.hid ht
        go_upto_region 9 with (fail)
        go_cut [83] (fun v wx => v = .bool t ∧ Hid (∃ q, wx = wr.drewN q))
        case first =>
          by_cases hPM : P < (M : Int)
          · have e : t = true := by rw [ht]; simp [hPM]
            subst e
            clear ht
            go_quiet ((go_at_call 17; exact Calls.quiet_of_same ((HS.out _).mono fun _ _ ⟨h, h2⟩ => ⟨h, h2.symm⟩)))
            go_wp2_with fail
            go_meet
            exact ⟨rfl, Lib.hid ⟨nq, rfl⟩⟩
          · have hPM' : (M : Int) ≤ P := by omega
            have e : t = decide (B < (S : Int)) := by rw [ht]; simp; omega
            have HE := Lib.hid e
            clear ht e
            go_quiet ((go_at_call 17; exact Calls.quiet_of_same ((HS.out _).mono fun _ _ ⟨h, h2⟩ => ⟨h, h2.symm⟩)))
            go_wp2_with fail
            go_meet
            exact ⟨by rw [HE.out], Lib.hid ⟨nq, rfl⟩⟩
        case rest =>
          obtain ⟨rfl, HQ⟩ := hcut
          clear ht hc0 hc1 hc2 HS
          cases t
          · have hno : ¬ (P < (M : Int) ∨ B < (S : Int)) := by have := HT.out; simpa using this.symm
            have HF2 : Hid (∃ D' vI' vB', Way19 w g P B (FRg g (.slice AI N cI) (.slice AB N cB)) D' (fitL P B (insL (i, b) L)) vI' vB' wc) := Lib.hid (by
              obtain ⟨q, hq⟩ := HQ.out
              refine HFin.out D2 L2 (.slice A5 M c5) vB wc ?_ ?_
              · rw [hq]; exact HW.out.below ⟨rfl, rfl, rfl, Nat.le_refl _, fun _ _ => rfl⟩
              · rw [← HFit.out]
                cases hL : L2 with
                | nil => rfl
                | cons x r =>
                  unfold fitL
                  rw [← hL, ← HW.out.perm.length_eq, ← sizD_perm HW.out.perm, ← HM.out, ← HSz.out, if_neg hno])
            clear HFin HFit HW HLEN HM HSz HT HQ HFg hno
            go_wp2
            go_ret
            exact ⟨rfl, HF2.out⟩
          · have hyes : P < (M : Int) ∨ B < (S : Int) := by have := HT.out; simpa using this.symm
            obtain ⟨x, r, hL⟩ : ∃ x r, L2 = x :: r := by
              cases hL : L2 with
              | nil =>
                have h1 := HW.out.perm.length_eq
                have h2 := sizD_perm HW.out.perm
                rw [hL] at h1 h2
                rw [← HM.out] at h1
                rw [← HSz.out] at h2
                simp only [List.length_nil, sizD_nil] at h1 h2
                have := HNP.out; have := HNB.out
                omega
              | cons x r => exact ⟨x, r, rfl⟩
            have hW2 : Way19 w g P B F D2 (x :: r) (.slice A5 M c5) vB wc := by
              rw [← hL]
              obtain ⟨q, hq⟩ := HQ.out
              rw [hq]; exact HW.out.below ⟨rfl, rfl, rfl, Nat.le_refl _, fun _ _ => rfl⟩
            have hfr : fitL P B r = fitL P B L1 := by
              rw [← HFit.out, hL]
              conv => rhs; unfold fitL
              rw [← hL, ← HW.out.perm.length_eq, ← sizD_perm HW.out.perm, ← HM.out, ← HSz.out, if_pos hyes]
            obtain ⟨m, hm1, hm2, hm3, hm4⟩ := lst_perm hW2.perm hW2.srt
            have HL1 := Lib.hid (rleast_any19 0 g P B D2 _ vB wc hW2.ring (by have := HM.out; omega))
            rw [hm1] at HL1
            have HD1 : Hid (∀ q, Calls Try.prog 23 #[.pointer (some ⟨g, 0, none⟩), .int .i64 m] (wc.drewN q) fun e w' => e = .returned (.tuple #[]) ∧ Hid (Put19 w g P B F L1 w' ∧ lenAt w' g = M - 1)) := Lib.hid fun q => by
              have hw3 := hW2.below (w2 := wc.drewN q) ⟨rfl, rfl, rfl, Nat.le_refl _, fun _ _ => rfl⟩
              refine (rdrop_any19 0 g P B D2 _ vB m (wc.drewN q) hw3.ring (by have := HM.out; omega) hm2).mono ?_
              rintro e w' ⟨rfl, vI2, vB2, hr, hg⟩
              have hle : (D2.eraseIdx m).length = M - 1 := by rw [List.length_eraseIdx_of_lt hm2, ← HM.out]
              refine ⟨rfl, Lib.hid ⟨⟨_, r, vI2, vB2, hw3.dropped HFg.out hr hg hm4 (List.pairwise_cons.1 hW2.srt).2, hfr, by omega, ?_⟩, ?_⟩⟩
              · have h1 := sizD_perm hm4
                have h2 := sizD_perm hW2.perm
                rw [sizD_cons, ← HSz.out] at h2
                rw [h1]; omega
              · obtain ⟨A6, c6, hv6⟩ := own_formN hr.own
                subst hv6
                have := hr.c2
                unfold lenAt
                rw [this, hle]
            have hM1 : 0 < M := by have := HM.out; omega
            clear hyes hL hW2 hfr hm1 hm2 hm3 hm4 HW HFit HSz HM HT HQ HFin HFg
            go_wp2_with (first
              | (go_at_call 22; ((with_reducible refine (Hid.out HL1).mono ?_); rintro e w5 ⟨rfl, q5, rfl⟩))
              | (go_at_call 23; ((with_reducible refine (Hid.out HD1 _).mono ?_); rintro e w6 ⟨rfl, HK6⟩)))
            go_roundw
            case rel => exact Lib.hid HK6.out.1
            case measure => rw [HK6.out.2, HLEN.out]; omega
end Go.Proofs.Ytjbeheegciacpaa
