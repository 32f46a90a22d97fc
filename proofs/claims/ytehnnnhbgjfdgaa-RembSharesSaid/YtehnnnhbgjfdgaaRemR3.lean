/- The document's sharing, walked. No statement is proved here. -/
import Derived.Test.YtehnnnhbgjfdgaaRemR2
namespace Go.Proofs.Ytehnnnhbgjfdgaa
open Go.RowKit
set_option linter.unusedVariables false

theorem int_info25 : (Try.prog.info? 3).map (fun i => (i.zero, i.size, i.bytes)) = some (some (.int .i64 0), 1, 8) := by kernel_rfl
/-- What is known when those of a layer below z, and of layer z the first k, were looked at. -/
def Seen (x : Int) (C : List (List Int)) (O : List Int) (z b : Int) (k : Nat) : Prop :=
  (b < 0 → ∀ i, i < O.length → Fit x C O i → z ≤ O.getD i 0 ∧ (i < k → z < O.getD i 0)) ∧ (0 ≤ b → Nxt x C O b.toNat ∧ z ≤ 7)
theorem seen_start {x : Int} {C : List (List Int)} {O : List Int} (h : OkO C O) : Seen x C O (-1) (-1) 0 := ⟨fun _ i hi _ => ⟨(h.2 i hi).1, fun hk => by omega⟩, fun h => by omega⟩
theorem seen_skip {x : Int} {C : List (List Int)} {O : List Int} {z b : Int} {k : Nat} (h : Seen x C O z b k) (hb : b < 0) (hn : Fit x C O k → O.getD k 0 ≠ z) : Seen x C O z b (k + 1) :=
  ⟨fun _ i hi hf => ⟨(h.1 hb i hi hf).1, fun hk => by
    rcases Nat.lt_or_ge i k with h1 | h1
    · exact (h.1 hb i hi hf).2 h1
    · obtain rfl : i = k := by omega
      have := hn hf
      have := (h.1 hb i hi hf).1
      omega⟩, fun h0 => by omega⟩
theorem seen_found {x : Int} {C : List (List Int)} {O : List Int} {z b : Int} {k j : Nat} (h : Seen x C O z b k) (hb : b < 0) (hk : k < O.length) (hf : Fit x C O k) (hz : O.getD k 0 = z) : Seen x C O z (k : Int) j :=
  ⟨fun h0 => by omega, fun _ => ⟨⟨by simpa using hk, by simpa using hf, fun i hi hfi => by
      have := (h.1 hb i hi hfi).1
      simp only [Int.toNat_natCast]
      omega, fun i hi hfi => by
      simp only [Int.toNat_natCast] at hi ⊢
      have := (h.1 hb i (by omega) hfi).2 hi
      omega⟩, by have := hf.2.2.1; omega⟩⟩
theorem seen_next {x : Int} {C : List (List Int)} {O : List Int} {z b : Int} {k : Nat} (h : Seen x C O z b k) (hk : b < 0 → O.length ≤ k ∨ 64 ≤ k) (hz : 0 ≤ b → z + 1 ≤ 7) : Seen x C O (z + 1) b 0 :=
  ⟨fun hb i hi hf => ⟨by
    have := (h.1 hb i hi hf).2 (by rcases hk hb with h1 | h1; omega; have := hf.1; omega)
    omega, fun h0 => by omega⟩, fun h0 => ⟨(h.2 h0).1, hz h0⟩⟩
theorem seen_none {x : Int} {C : List (List Int)} {O : List Int} {z b : Int} {k : Nat} (h : Seen x C O z b k) (hb : b < 0) (hz : 8 ≤ z) : Non x C O := fun i hi hf => by
  have := (h.1 hb i hi hf).1
  have := hf.2.2.1
  omega
theorem fill_step (k n : Nat) (a b : Int) (h : k < n) : (List.replicate k a ++ List.replicate (n - k) b).set k a = List.replicate (k + 1) a ++ List.replicate (n - (k + 1)) b := by
  rw [List.set_append_right _ _ (by simp), List.length_replicate, Nat.sub_self, show n - k = (n - (k + 1)) + 1 by omega, List.replicate_succ (n := n - (k + 1)), List.set_cons_zero, List.replicate_succ' (n := k), List.append_assoc]
  rfl
/-- The numbers that a subscription's comparison hangs on. -/
theorem share_facts {w wr : World} {p k : Nat} {e : TypeId} {C : List (List Int)} {A : Option Addr} {O : List Int} (hm : MatRd wr A C) (ho : OutR w p e O wr) (hl : O.length = C.length) (hk : k < O.length) :
    ∃ b off R cr, A = some ⟨b, off, none⟩ ∧ wr.cell? ⟨b, off + k, none⟩ = some (.slice R (C.getD k []).length cr) ∧ RdV wr R (C.getD k []).length (C.getD k []) ∧ wr.cell? ⟨p, k, none⟩ = some (.int .i64 (O.getD k 0)) := by
  obtain ⟨b, off, R, cr, h1, h2, h3⟩ := hm.at_ (j := k) (by omega)
  exact ⟨b, off, R, cr, h1, h2, h3, ho.at_ hk⟩
set_option maxRecDepth 100000 in
set_option maxHeartbeats 8000000 in
/-- THE DOCUMENT'S SHARING. -/
theorem rshare_any (A : Option Addr) (ca : Nat) (C : List (List Int)) (rate : Int) (w : World) (hr : MatRd w A C) (hn : C.length ≤ 1000) (h0 : 0 ≤ rate) (h1 : rate ≤ 18446744073709551615) :
    Calls Try.prog 9 #[.int .u64 rate, .slice A C.length ca] w fun e w' => e = .returned (.slice (some ⟨w.heap.size, 0, none⟩) C.length C.length) ∧ Hid (∃ R, Shr C rate (List.replicate C.length (-1)) R ∧ RdJ w' (some ⟨w.heap.size, 0, none⟩) C.length R ∧ Below w.heap.size w w') := by
  have hC := hr.ok
  have HC := Lib.hid hC
  have HM : Hid (∀ wx p O, OutR w p 3 O wx → MatRd wx A C) := Lib.hid (fun wx p O h => hr.below h.below)
  have HS := Lib.hid (okO_start C)
  obtain ⟨n, hnn⟩ : ∃ n, n = C.length := ⟨_, rfl⟩
  have HN := Lib.hid hnn
  rw [← hnn] at hn HS ⊢
  have HB := Lib.hid (And.intro h0 h1)
  have hmk := run_makeI (P := Try.prog) Try.underlying24 int_info25 .i64 .i64 (n : Int) (n : Int) n rfl rfl (by omega) w
  have HF : Hid (OutR w w.heap.size 3 (List.replicate n 0) (w.alloc (.cells (icells (List.replicate n 0)).toArray 3))) := Lib.hid ⟨BlkV.new w _ _, (Below.refl _ _).alloc (Nat.le_refl _) _, Nat.le_refl _⟩
  clear hr hC hnn h0 h1
  obtain ⟨p, hp⟩ : ∃ p, p = w.heap.size := ⟨_, rfl⟩
  rw [← hp] at hmk HF ⊢
  have HP := Lib.hid hp
  clear hp
  go_enter Try.func9, Try.ntmps9
  go_wp2
  generalize w.alloc (.cells (icells (List.replicate n 0)).toArray 3) = w1 at *
  clear hmk
  go_loopw [6] (fun vi wr => ∃ k : Nat, k ≤ n ∧ vi = .int .i64 k ∧ Hid (OutR w p 3 (List.replicate k (-1) ++ List.replicate (n - k) 0) wr)) (fun i _ => n - (intOf i).toNat)
  case atStart => exact ⟨0, by omega, rfl, Lib.hid (by simpa using HF.out)⟩
  case round =>
    clear HF
    obtain ⟨k, hk, rfl, HO⟩ := hrel
    by_cases g1 : k < n
    · have g1i : (k : Int) < (n : Int) := by omega
      have hcell := HO.out.at_ (k := k) (by simp; omega)
      have hfr := HO.out.free (k := k)
      have HX : Hid (OutR w p 3 (List.replicate (k + 1) (-1) ++ List.replicate (n - (k + 1)) 0) (wr.setCell ⟨p, k, none⟩ (.int .i64 (-1)))) := Lib.hid (by
        have := HO.out.set_ (k := k) (-1)
        rwa [fill_step k n (-1) 0 g1] at this)
      generalize (List.replicate k (-1 : Int) ++ List.replicate (n - k) 0).getD k 0 = y at *
      clear HO
      go_wp2
      go_roundw
      case rel => exact ⟨k + 1, by omega, by go_num, HX⟩
      case measure => (simp [intOf]; try omega)
    · have g1i : ¬ (k : Int) < (n : Int) := by omega
      obtain rfl : k = n := by omega
      have HO2 : Hid (OutR w p 3 (List.replicate k (-1)) wr) := Lib.hid (by simpa using HO.out)
      clear HO
      go_wp2
      go_loopw [7] (fun vx wr => ∃ (x : Int) (O : List Int), vx = .int .u64 x ∧ 0 ≤ x ∧ x ≤ 18446744073709551615 ∧ Hid (OutR w p 3 O wr ∧ OkO C O ∧ ∀ R, Shr C x O R → Shr C rate (List.replicate k (-1)) R)) (fun _ wr => mesO (rowOf wr p))
      case atStart => exact ⟨rate, _, rfl, HB.out.1, HB.out.2, Lib.hid ⟨HO2.out, HS.out, fun R h => h⟩⟩
      case round =>
        clear HO2 HS HB g1 g1i
        obtain ⟨x, O, rfl, hx0, hx1, HQ⟩ := hrel
        have hlO : O.length = k := by have h1 := HQ.out.2.1.1; have h2 := HN.out; omega
        have HROW := Lib.hid HQ.out.1.row
        have HOK := Lib.hid HQ.out.2.1
        have HSH := Lib.hid HQ.out.2.2
        have HOW := Lib.hid HQ.out.1
        clear HQ
        go_wp2
        go_loopw [8, 9] (fun vb vz wr => ∃ z b : Int, vb = .int .i64 b ∧ vz = .int .i64 z ∧ -1 ≤ z ∧ z ≤ 8 ∧ -1 ≤ b ∧ b < k ∧ Hid (Seen x C O z b 0) ∧ Hid (OutR w p 3 O wr)) (fun _ z _ => (8 - intOf z).toNat)
        case atStart => exact ⟨-1, -1, rfl, rfl, by omega, by omega, by omega, by omega, Lib.hid (seen_start HOK.out), HOW⟩
        case round =>
          clear HOW
          obtain ⟨z, b, rfl, rfl, hz0, hz8, hb0, hbk, HE, HOW⟩ := hrel
          by_cases hb : b < 0
          · by_cases hz : z < 8
            · have HQ : Hid (Seen x C O z b 0) := HE
              clear HE
              go_wp2
              go_loopw [8, 10] (fun vb vi wr => ∃ (j : Nat) (b : Int), vb = .int .i64 b ∧ vi = .int .i64 j ∧ j ≤ k ∧ j ≤ 64 ∧ -1 ≤ b ∧ b < k ∧ (0 ≤ b → z ≤ 6) ∧ Hid (Seen x C O z b j) ∧ Hid (OutR w p 3 O wr)) (fun _ i _ => k - (intOf i).toNat)
              case atStart => exact ⟨0, b, rfl, rfl, by omega, by omega, by omega, by omega, fun h => by omega, HQ, HOW⟩
              case round =>
                clear HOW HQ hb hbk hb0
                obtain ⟨j, b, rfl, rfl, hj, hj64, hb0, hbk, hz6, HE, HOW⟩ := hrel
                by_cases hb : b < 0
                · by_cases g1 : j < k
                  · by_cases g2 : j < 64
                    · have g1i : (j : Int) < (k : Int) := by omega
                      have g2i : (j : Int) < 64 := by omega
                      have hskip : Hid (∀ wx, OutR w p 3 O wx → (Fit x C O j → O.getD j 0 ≠ z) → ∃ (j' : Nat) (b' : Int), Value.int .i64 b = .int .i64 b' ∧ Value.int .i64 ((j : Int) + 1) = .int .i64 j' ∧ j' ≤ k ∧ j' ≤ 64 ∧ -1 ≤ b' ∧ b' < k ∧ (0 ≤ b' → z ≤ 6) ∧ Hid (Seen x C O z b' j') ∧ Hid (OutR w p 3 O wx)) :=
                        Lib.hid (fun wx hw hf => ⟨j + 1, b, rfl, by simp, by omega, by omega, by omega, by omega, fun h => by omega, Lib.hid (seen_skip HE.out hb hf), Lib.hid hw⟩)
                      have hfound : Hid (∀ wx, OutR w p 3 O wx → Fit x C O j → O.getD j 0 = z → ∃ (j' : Nat) (b' : Int), Value.int .i64 (j : Int) = .int .i64 b' ∧ Value.int .i64 ((j : Int) + 1) = .int .i64 j' ∧ j' ≤ k ∧ j' ≤ 64 ∧ -1 ≤ b' ∧ b' < k ∧ (0 ≤ b' → z ≤ 6) ∧ Hid (Seen x C O z b' j') ∧ Hid (OutR w p 3 O wx)) :=
                        Lib.hid (fun wx hw hf he => ⟨j + 1, j, rfl, by simp, by omega, by omega, by omega, by omega, fun h => by have := hf.2.2.1; omega, Lib.hid (seen_found HE.out hb (by omega) hf he), Lib.hid hw⟩)
                      obtain ⟨b1, off, R, cr, rfl, hc1, hrow, hc2⟩ := share_facts (HM.out _ _ _ HOW.out) HOW.out HOK.out.1 (show j < O.length by omega)
                      have HFIT : Hid (Fit x C O j ↔ (O.getD j 0 + 1 < ((C.getD j []).length : Int) ∧ O.getD j 0 + 1 < 8 ∧ cst (C.getD j []) (O.getD j 0 + 1) ≤ satN x (cst (C.getD j []) (O.getD j 0)))) := Lib.hid ⟨fun h => h.2, fun h => ⟨g2, h⟩⟩
                      have hnr := hrow.2.1
                      have hrd := hrow
                      have hbd := (HOK.out.2 j (by omega))
                      have P1 := Lib.hid (fun (hz : O.getD j 0 = z) q => rcost_q R (C.getD j []).length cr (C.getD j []) (z + 1) wr hrd (by omega) q)
                      have P2 := Lib.hid (fun (hz : O.getD j 0 = z) q => rcost_q R (C.getD j []).length cr (C.getD j []) z wr hrd (by omega) q)
                      have hq1 := cst_ok hrow.2.2.1 (z + 1)
                      have hq0 := cst_ok hrow.2.2.1 z
                      have P3 := Lib.hid (fun q => rsat_q x (cst (C.getD j []) z) wr (by omega) (by omega) (by omega) (by omega) q)
                      clear hrow hrd hbd
                      by_cases g3 : O.getD j 0 = z
                      · have Q1 := Lib.hid (P1.out g3)
                        have Q2 := Lib.hid (P2.out g3)
                        have g3' := g3
                        rw [g3] at hc2 HFIT
                        clear P1 P2
                        generalize satN x (cst (C.getD j []) z) = s at *
                        generalize cst (C.getD j []) (z + 1) = c1 at *
                        generalize cst (C.getD j []) z = c0 at *
                        have HG3 := Lib.hid g3
                        clear g3 g3'
                        generalize (C.getD j []).length = nr at *
                        by_cases g4 : z + 1 < (nr : Int)
                        · by_cases g5 : z + 1 < 8
                          · have g4' : ¬ (nr : Int) ≤ z + 1 := by omega
                            have g5' : ¬ (8 : Int) ≤ z + 1 := by omega
                            have hs : IntKind.i64.wrap (z + 1) = z + 1 := by rw [IntKind.wrap_i64]; omega
                            by_cases g6 : c1 ≤ s
                            · have HOW2 : Hid (∀ q, OutR w p 3 O (wr.drewN q)) := Lib.hid (fun q => HOW.out.drewN q)
                              have HFI := Lib.hid (HFIT.out.2 ⟨g4, g5, g6⟩)
                              clear HFIT hskip HOW hq0 hq1
                              go_wp2
                              go_quiet (first
                                | (go_at_call 16; with_reducible exact Calls.quiet_of_same (Hid.out Q1 _))
                                | (go_at_call 16; with_reducible exact Calls.quiet_of_same (Hid.out Q2 _))
                                | (go_at_call 17; with_reducible exact Calls.quiet_of_same (Hid.out P3 _)))
                              clear hs
                              go_wp2
                              go_roundw
                              case rel => exact hfound.out _ (HOW2.out _) HFI.out HG3.out
                              case measure => (simp [intOf]; try omega)
                            · have HOW2 : Hid (∀ q, OutR w p 3 O (wr.drewN q)) := Lib.hid (fun q => HOW.out.drewN q)
                              have HFI := Lib.hid (fun h => g6 (HFIT.out.1 h).2.2)
                              clear HFIT hfound HOW hq0 hq1
                              go_wp2
                              go_quiet (first
                                | (go_at_call 16; with_reducible exact Calls.quiet_of_same (Hid.out Q1 _))
                                | (go_at_call 16; with_reducible exact Calls.quiet_of_same (Hid.out Q2 _))
                                | (go_at_call 17; with_reducible exact Calls.quiet_of_same (Hid.out P3 _)))
                              clear hs
                              go_wp2
                              go_roundw
                              case rel => exact hskip.out _ (HOW2.out _) (fun h => (HFI.out h).elim)
                              case measure => (simp [intOf]; try omega)
                          · have g5' : (8 : Int) ≤ z + 1 := by omega
                            have HFI := Lib.hid (fun h => g5 (HFIT.out.1 h).2.1)
                            clear HFIT hfound hq0 hq1 Q1 Q2 P3
                            go_wp2
                            go_roundw
                            case rel => exact hskip.out _ HOW.out (fun h => (HFI.out h).elim)
                            case measure => (simp [intOf]; try omega)
                        · have g4' : (nr : Int) ≤ z + 1 := by omega
                          have HFI := Lib.hid (fun h => g4 (HFIT.out.1 h).1)
                          clear HFIT hfound hq0 hq1 Q1 Q2 P3
                          go_wp2
                          go_roundw
                          case rel => exact hskip.out _ HOW.out (fun h => (HFI.out h).elim)
                          case measure => (simp [intOf]; try omega)
                      · have HG3 := Lib.hid g3
                        obtain ⟨y, hy⟩ : ∃ y, y = O.getD j 0 := ⟨_, rfl⟩
                        rw [← hy] at hc2 g3
                        have g3b : (y == z) = false := beq_eq_false_iff_ne.2 g3
                        clear hfound hq0 hq1 P1 P2 P3 HFIT hy
                        go_wp2
                        go_roundw
                        case rel => exact hskip.out _ HOW.out (fun _ => HG3.out)
                        case measure => (simp [intOf]; try omega)
                    · have g1i : (j : Int) < (k : Int) := by omega
                      have g2i : ¬ (j : Int) < 64 := by omega
                      have HX := Lib.hid (seen_next HE.out (fun _ => .inr (by omega)) (fun h => by omega))
                      go_wp2
                      go_roundw
                      case rel => exact ⟨z + 1, b, rfl, by go_num, by omega, by omega, by omega, by omega, HX, HOW⟩
                      case measure => (simp [intOf]; try omega)
                  · have g1i : ¬ (j : Int) < (k : Int) := by omega
                    have HX := Lib.hid (seen_next HE.out (fun _ => .inl (by omega)) (fun h => by omega))
                    go_wp2
                    go_roundw
                    case rel => exact ⟨z + 1, b, rfl, by go_num, by omega, by omega, by omega, by omega, HX, HOW⟩
                    case measure => (simp [intOf]; try omega)
                · have HX := Lib.hid (seen_next HE.out (fun h => absurd h hb) (fun h => by have := hz6 h; omega))
                  by_cases g1 : j < k
                  · have g1i : (j : Int) < (k : Int) := by omega
                    by_cases g2 : j < 64
                    · have g2i : (j : Int) < 64 := by omega
                      go_wp2
                      go_roundw
                      case rel => exact ⟨z + 1, b, rfl, by go_num, by omega, by omega, by omega, by omega, HX, HOW⟩
                      case measure => (simp [intOf]; try omega)
                    · have g2i : ¬ (j : Int) < 64 := by omega
                      go_wp2
                      go_roundw
                      case rel => exact ⟨z + 1, b, rfl, by go_num, by omega, by omega, by omega, by omega, HX, HOW⟩
                      case measure => (simp [intOf]; try omega)
                  · have g1i : ¬ (j : Int) < (k : Int) := by omega
                    go_wp2
                    go_roundw
                    case rel => exact ⟨z + 1, b, rfl, by go_num, by omega, by omega, by omega, by omega, HX, HOW⟩
                    case measure => (simp [intOf]; try omega)
            · have HX := Lib.hid (HSH.out _ (.done (seen_none HE.out hb (by omega))))
              have HRD : Hid (RdJ wr (some ⟨p, 0, none⟩) k O) := Lib.hid (by have := HOW.out.rd; rwa [hlO] at this)
              go_wp2
              go_ret
              exact ⟨rfl, Lib.hid ⟨O, HX.out, HRD.out, by have := HOW.out.below; rw [← HP.out] at this; exact this⟩⟩
          · obtain ⟨c, rfl⟩ := Int.eq_ofNat_of_zero_le (show 0 ≤ b by omega)
            have hnx := (HE.out.2 (by omega)).1
            have hz7 := (HE.out.2 (by omega)).2
            simp only [Int.toNat_natCast] at hnx
            have hck : c < k := by omega
            obtain ⟨b1, off, R, cr, rfl, hc1, hrow, hc2⟩ := share_facts (HM.out _ _ _ HOW.out) HOW.out HOK.out.1 (show c < O.length by omega)
            have hbd := HOK.out.2 c (by omega)
            have hy8 := hnx.2.1.2.2.1
            have Q1 := Lib.hid (fun q => rcost_q R (C.getD c []).length cr (C.getD c []) (O.getD c 0) wr hrow (by omega) q)
            have Q2 := Lib.hid (fun q => rcost_q R (C.getD c []).length cr (C.getD c []) (O.getD c 0 + 1) wr hrow (by omega) q)
            have hq0 := cst_ok hrow.2.2.1 (O.getD c 0)
            have hq1 := cst_ok hrow.2.2.1 (O.getD c 0 + 1)
            have HL := Lib.hid (lftR_ok HC.out ⟨hx0, hx1⟩ hnx.2.1)
            have HLF : Hid (lftR x C O c = if cst (C.getD c []) (O.getD c 0) ≤ cst (C.getD c []) (O.getD c 0 + 1) then x - (cst (C.getD c []) (O.getD c 0 + 1) - cst (C.getD c []) (O.getD c 0)) else satN x (cst (C.getD c []) (O.getD c 0) - cst (C.getD c []) (O.getD c 0 + 1))) := Lib.hid rfl
            have HNEW : Hid (∀ wx, OutR w p 3 (O.set c (O.getD c 0 + 1)) wx → mesO (rowOf wx p) < mesO O) := Lib.hid (fun wx h => by rw [h.row]; exact mesO_step hnx.1 hnx.2.1)
            have HOK2 := Lib.hid (okO_step HOK.out hnx.1 hnx.2.1)
            have HSH2 : Hid (∀ R, Shr C (lftR x C O c) (O.set c (O.getD c 0 + 1)) R → Shr C rate (List.replicate k (-1)) R) := Lib.hid (fun R h => HSH.out R (.more c hnx h))
            have HSET : Hid (∀ wx, OutR w p 3 O wx → wx.cell? ⟨p, c, none⟩ = some (.int .i64 (O.getD c 0)) ∧ wx.frozen? ⟨p, c, none⟩ = false ∧ Hid (OutR w p 3 (O.set c (O.getD c 0 + 1)) (wx.setCell ⟨p, c, none⟩ (.int .i64 (O.getD c 0 + 1))))) := Lib.hid (fun wx h => ⟨h.at_ (by omega), h.free, Lib.hid (h.set_ (k := c) _)⟩)
            obtain ⟨lf, hlf⟩ : ∃ lf, lf = lftR x C O c := ⟨_, rfl⟩
            rw [← hlf] at HL HLF HSH2
            clear hrow hnx HE HSH hlf
            obtain ⟨O2, hO2⟩ : ∃ O2, O2 = O.set c (O.getD c 0 + 1) := ⟨_, rfl⟩
            rw [← hO2] at HNEW HOK2 HSH2 HSET
            clear hO2
            generalize cst (C.getD c []) (O.getD c 0 + 1) = c1 at *
            generalize cst (C.getD c []) (O.getD c 0) = c0 at *
            generalize O.getD c 0 = y at *
            generalize (C.getD c []).length = nr at *
            have HY := Lib.hid hbd
            have hOW : Hid (∀ q, OutR w p 3 O (wr.drewN q)) := Lib.hid (fun q => HOW.out.drewN q)
            clear HOW
            by_cases g : c0 ≤ c1
            · have HL2 : Hid (lf = x - (c1 - c0)) := Lib.hid (by rw [HLF.out, if_pos g])
              have hlb := HL.out
              rw [HL2.out] at hlb
              have hd1 : IntKind.u64.wrap (c1 - c0) = c1 - c0 := by rw [IntKind.wrap_u64]; omega
              have hd2 : IntKind.u64.wrap (x - (c1 - c0)) = x - (c1 - c0) := by rw [IntKind.wrap_u64]; omega
              have hs : IntKind.i64.wrap (y + 1) = y + 1 := by rw [IntKind.wrap_i64]; omega
              go_wp2
              go_quiet (first
                | (go_at_call 16; with_reducible exact Calls.quiet_of_same (Hid.out Q1 _))
                | (go_at_call 16; with_reducible exact Calls.quiet_of_same (Hid.out Q2 _)))
              obtain ⟨e1, e2, HK⟩ := HSET.out _ (hOW.out nq)
              generalize wr.drewN nq = wq at *
              go_wp2
              go_roundw
              case rel => exact ⟨lf, O2, by rw [HL2.out], HL.out.1, HL.out.2, Lib.hid ⟨HK.out, HOK2.out, HSH2.out⟩⟩
              case measure => rw [HROW.out]; exact HNEW.out _ HK.out
            · have HL2 : Hid (lf = satN x (c0 - c1)) := Lib.hid (by rw [HLF.out, if_neg g])
              have g' : c1 < c0 := by omega
              have hd1 : IntKind.u64.wrap (c0 - c1) = c0 - c1 := by rw [IntKind.wrap_u64]; omega
              have hs : IntKind.i64.wrap (y + 1) = y + 1 := by rw [IntKind.wrap_i64]; omega
              have P3 := Lib.hid (fun wx => rsat_any x (c0 - c1) wx (by omega) (by omega) (by omega) (by omega))
              generalize satN x (c0 - c1) = s at *
              go_wp2
              go_quiet (first
                | (go_at_call 16; with_reducible exact Calls.quiet_of_same (Hid.out Q1 _))
                | (go_at_call 16; with_reducible exact Calls.quiet_of_same (Hid.out Q2 _)))
              obtain ⟨e1, e2, HK⟩ := HSET.out _ (hOW.out nq)
              generalize wr.drewN nq = wq at *
              go_wp2_with (go_at_call 17; ((with_reducible refine (Hid.out P3 _).mono ?_); rintro e w5 ⟨rfl, rfl⟩))
              go_roundw
              case rel => exact ⟨lf, O2, by rw [HL2.out], HL.out.1, HL.out.2, Lib.hid ⟨HK.out, HOK2.out, HSH2.out⟩⟩
              case measure => rw [HROW.out]; exact HNEW.out _ HK.out
end Go.Proofs.Ytehnnnhbgjfdgaa
