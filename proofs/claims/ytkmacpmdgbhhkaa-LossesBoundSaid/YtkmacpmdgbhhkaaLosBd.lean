/- LossesBound's walk: nothing is asked for more than three times, nor twice within a pause; never are more than 32 missed. -/
import Derived.Test.YtkmacpmdgbhhkaaLosBd0
import Derived.Test.YtkmacpmdgbhhkaaRtcpP1
import Derived.Deep.RegionHeld3
import Derived.Deep.DeepCutAuto
namespace Go.Proofs.Ytkmacpmdgbhhkaa
open Go.RowKit
set_option linter.unusedVariables false

/-- Behind k steps: the highest index, what was asked, all within bounds. -/
structure Bnd20 (T : World → Value → Kpr → (Nat → Prop) → Prop) (w : World) (q : Addr) (P : Int) (k : Nat) (h : Int) (s : Kpr) (A : List (Int × Int)) (v1 v2 : Value) (m : Nat) (wr : World) : Prop where
  hs : Hs20 T w q s A v1 v2 m wr
  ok : KOk s
  hst : Hst s A
  p : s.p = P
  hi : 0 ≤ h ∧ h ≤ 40 * k
  lt : s.h ≤ h
  m : m ≤ 32 * k
  lo : -1 ≤ s.h ∧ h - s.h ≤ 1
  tk : ∀ a ∈ A, 0 ≤ a.2 ∧ a.2 ≤ k
theorem ne6416 : (2 : TypeId) ≠ 33 := by decide
/-- The rows of what was asked, and this tick's numbers. -/
def Lop20 (T : World → Value → Kpr → (Nat → Prop) → Prop) (w : World) (q : Addr) (s : Kpr) (B : List (Int × Int)) (v1 v2 : Value) (m : Nat) (An : Option Addr) (cn : Nat) (l : List Nat) (wr : World) : Prop := Hs20 T w q s B v1 v2 m wr ∧ wr.ownsRow w.heap.size 33 1 (.slice An l.length cn) l.length (hcells l)
theorem Lop20.drewN {T : World → Value → Kpr → (Nat → Prop) → Prop} (hL : Lone T) {w : World} {q : Addr} {s : Kpr} {B : List (Int × Int)} {v1 v2 : Value} {m : Nat} {An : Option Addr} {cn : Nat} {l : List Nat} {wr : World} (h : Lop20 T w q s B v1 v2 m An cn l wr) (n : Nat) : Lop20 T w q s B v1 v2 m An cn l (wr.drewN n) := by
  have hb : Below wr.heap.size wr (wr.drewN n) := ⟨rfl, rfl, rfl, Nat.le_refl _, fun _ _ => rfl⟩
  exact ⟨h.1.below hL hb, own_keep h.2 hb⟩
theorem count_take (B : List (Int × Int)) (y : Int) {b : Nat} (hb : b < B.length) : (B.take (b + 1)).countP (fun a => decide (a.1 = y)) = (B.take b).countP (fun a => decide (a.1 = y)) + if B[b].1 = y then 1 else 0 := by
  rw [List.take_succ_eq_append_getElem hb, List.countP_append]
  by_cases h : B[b].1 = y <;> simp [h]
set_option maxRecDepth 100000 in
set_option maxHeartbeats 2000000 in
theorem lossesBound_walk {T : World → Value → Kpr → (Nat → Prop) → Prop} (hT : Tells20 T) (p : Int) (A0 : Option Addr) (n cap : Nat) (xs : List Nat) (w : World) (hp : (Lit.int .u8 p).wf = true) (hr : RdH w A0 n xs) :
    Calls Try.prog 4 #[.int .u8 p, .slice A0 n cap] w fun e w' => e = .returned (.bool true) ∧ Below w.heap.size w w' := by
  have H := Lib.hid hT
  have HAL := Lib.hid (alive_any20 hT w)
  have bp := bounds_u8 hp
  have hn := hr.2.1
  have HR := Lib.hid hr
  have HN := Lib.hid (fun wx => hT.new p wx (by omega))
  have O1 := Lib.hid (newK_ok p)
  obtain ⟨P, hP⟩ : ∃ P, P = (newK p).p := ⟨_, rfl⟩
  have HP := Lib.hid hP
  have hPd : P = if p < 1 then 1 else p := by rw [hP]; rfl
  have hPb : 1 ≤ P ∧ P ≤ 255 := by rw [hPd]; split <;> omega
  clear hT hr hp hP
  go_enter Try.func4, Try.ntmps4
  go_upto_if 23 with (first
    | (go_at_call 7; ((with_reducible refine (Hid.out HAL).mono ?_); rintro e w1 ⟨rfl, hb1⟩; have HB1 := Lib.hid hb1; clear hb1))
    | (go_at_call 8; ((with_reducible refine (Hid.out HN _).mono ?_); rintro e w2 ⟨q, F, rfl, HK⟩; have HO := Lib.hid (OnK.new HB1.out HK.out); clear HK)))
  go_cut [6] (fun v wx => v = .int .i64 P ∧ wx = w2)
  case first =>
    by_cases hp1 : p < 1
    · rw [if_pos hp1] at hPd
      subst hPd
      go_wp2
      go_meet
      exact ⟨rfl, rfl⟩
    · rw [if_neg hp1] at hPd
      subst hPd
      go_wp2
      go_meet
      exact ⟨rfl, rfl⟩
  case rest =>
    obtain ⟨rfl, rfl⟩ := hcut
    have HS0 : Hid (Bnd20 T w q P 0 0 (newK p) [] (.slice none 0 0) (.slice none 0 0) 0 wc) := Lib.hid ⟨⟨HO.out.less (fun k hk => by unfold RowsB at hk; simp [Value.ownBlock] at hk), by simpa [icells] using World.ownsRow_nil wc _ _ _, by simpa [icells] using World.ownsRow_nil wc _ _ _, fun k hk => by simp [Value.ownBlock] at hk⟩, O1.out, ⟨(fun x hx => by simp [newK] at hx), (fun x hx => by simp [newK] at hx), (fun a ha => nomatch ha)⟩, HP.out.symm, by omega, by simp [newK], by omega, by simp [newK], (fun a ha => nomatch ha)⟩
    clear hPd HAL HN HB1 HO O1 HP
    go_wp2
    go_loopw [7, 8, 9, 10] (fun vh va vw vi wr => ∃ (k m : Nat) (h : Int) (s : Kpr) (A : List (Int × Int)) (A1 A2 : Option Addr) (c1 c2 : Nat), k ≤ n ∧ k ≤ 60 ∧ vh = .int .i64 h ∧ va = .slice A1 m c1 ∧ vw = .slice A2 m c2 ∧ vi = .int .i64 k ∧ Hid (Bnd20 T w q P k h s A (.slice A1 m c1) (.slice A2 m c2) m wr)) (fun _ _ _ i _ => n - (intOf i).toNat)
    case atStart => exact ⟨0, 0, 0, _, [], none, none, 0, 0, by omega, by omega, rfl, rfl, rfl, rfl, HS0⟩
    case round =>
      clear HS0
      obtain ⟨k, m, h, s, A, A1, A2, c1, c2, hk, hk60, rfl, rfl, rfl, rfl, HS⟩ := hrel
      by_cases hlt : k < n
      · by_cases hk6 : k < 60
        · have hki : (k : Int) < (n : Int) := by omega
          have hk6i : (k : Int) < 60 := by omega
          have hrw := HR.out.below HS.out.hs.kp.below
          obtain ⟨b, off, rfl, _, hcs⟩ := hrw.2.2.2 (by omega)
          have c0 := hcs k hlt
          obtain ⟨x, hx⟩ : ∃ x, x = xs.getD k 0 := ⟨_, rfl⟩
          rw [← hx] at c0
          have hx5 : x < 65536 := by
            rw [hx]
            have hl := hrw.1
            have e : xs.getD k 0 = xs[k]'(by omega) := by simp [List.getD, show k < xs.length by omega]
            rw [e]
            exact hrw.2.2.1 _ (List.getElem_mem _)
          obtain ⟨y, hy⟩ : ∃ y : Nat, y = x % 40 := ⟨_, rfl⟩
          have hy40 : y < 40 := by omega
          have hym : IntKind.u16.wrap ((x : Int).tmod 40) = (y : Int) := by rw [IntKind.wrap_u16, Int.tmod_eq_emod_of_nonneg (by omega)]; omega
          have hym2 : (x : Int).tmod 40 = (y : Int) := by rw [Int.tmod_eq_emod_of_nonneg (by omega)]; omega
          have hhi := HS.out.hi
          have hlo := HS.out.lo
          have hlth := HS.out.lt
          have hmb := HS.out.m
          have HTK := Lib.hid HS.out.tk
          have hw1 : IntKind.i64.wrap (h + (y : Int)) = h + (y : Int) := by rw [IntKind.wrap_i64]; omega
          have hw2 : IntKind.i64.wrap (h + (y : Int) + 1) = h + (y : Int) + 1 := by rw [IntKind.wrap_i64]; omega
          have hs2 := cameK_is (s := s) (i := h + (y : Int) + 1) (tk := (k : Int)) (by omega) (by omega) (by omega)
          have O2 := cameK_ok HS.out.ok (h + (y : Int) + 1) k
          have HS2 := hst_came HS.out.ok HS.out.hst (h + (y : Int) + 1) k
          have P1 := Lib.hid (Los.came H.out HS.out.hs.kp HS.out.ok (by omega) (by rw [HS.out.p]; omega) (h + (y : Int) + 1) k (by omega) (by omega))
          have hp2 : (cameK s (h + (y : Int) + 1) k).p = P := by rw [cameK_p]; exact HS.out.p
          obtain ⟨s2, hs2e⟩ : ∃ s2, s2 = cameK s (h + (y : Int) + 1) k := ⟨_, rfl⟩
          rw [← hs2e] at hs2 O2 HS2 P1 hp2
          have HO2 := Lib.hid (And.intro O2 (And.intro HS2 (And.intro hs2 hp2)))
          clear hs2e hs2 O2 HS2 hp2 hcs hrw hx hy
          go_upto_region 15 with (go_at_call 13; ((with_reducible refine (Hid.out P1).mono ?_); rintro e w3 ⟨rfl, HK3⟩; have H3 := Lib.hid (Hs20.step (K2 := fun _ => False) HS.out.hs (HK3.out.1.less (fun k hk => hk.elim id (fun h => h.elim))) HK3.out.2); clear P1 HK3))
          obtain ⟨h2, hh2⟩ : ∃ h2, h2 = h + (y : Int) + 1 := ⟨_, rfl⟩
          have hh2b : 0 ≤ h2 ∧ h2 ≤ 40 * ((k + 1 : Nat) : Int) ∧ h2 ≤ 65536 := by omega
          rw [← hh2] at HO2 ⊢
          clear hh2 hw1 hw2 hym hym2 hhi hlo hlth c0 HS
          have P2 := Lib.hid (Los.missing H.out H3.out.kp HO2.out.1)
          obtain ⟨mm, hmm⟩ : ∃ mm, mm = s2.M.length := ⟨_, rfl⟩
          have hmm2 : mm ≤ 32 := by rw [hmm]; exact HO2.out.1.len
          rw [← hmm] at P2
          have hmmi : ¬ ((32 : Int) < (mm : Int)) := by omega
          obtain ⟨asked, q1, q2, q3, q4, q5, q6, q7⟩ := ask_facts HO2.out.1 HO2.out.2.1 (k : Int) (by rw [HO2.out.2.2.1]; omega)
          obtain ⟨l, hl⟩ : ∃ l, l = (askK s2 (k : Int)).2 := ⟨_, rfl⟩
          have OA := askK_ok HO2.out.1 (k : Int)
          have P3 : Hid (∀ wx, OnK T w (RowsB (.slice A1 m c1) (.slice A2 m c2)) (.pointer (some q)) s2 wx → Calls Try.prog 11 #[.pointer (some q), .int .i64 (k : Int)] wx fun e w' => ∃ A c, e = .returned (.slice A (lsL l).length c) ∧ Hid (RdL w' A (lsL l).length (lsL l) ∧ OnK T w (fun k => RowsB (.slice A1 m c1) (.slice A2 m c2) k ∨ BlkOf A (lsL l).length k) (.pointer (some q)) (askK s2 (k : Int)).1 w' ∧ SamK (RowsB (.slice A1 m c1) (.slice A2 m c2)) wx w')) :=
            Lib.hid (fun wx hx => Los.ask H.out hx HO2.out.1 (by rw [HO2.out.2.2.1]; omega) (by rw [HO2.out.2.2.2]; omega) (k : Int) (by omega) (lsL l) _ (by rw [hl]) rfl)
          rw [← hl] at q2 q3 q4 q5
          have hlsl : (lsL l).length ≤ 1000 := by have := lsL_len l; omega
          have P4 : Hid (∀ A c wx, RdL wx A (lsL l).length (lsL l) → Calls Try.prog 16 #[.slice A (lsL l).length c] wx fun e w' => ∃ A' c', e = .returned (.slice A' asked.length c') ∧ Hid (w'.ownsRow wx.heap.size 33 1 (.slice A' asked.length c') asked.length (hcells l) ∧ Below wx.heap.size wx w')) :=
            Lib.hid (fun A c wx hx => (nacked_any A (lsL l).length c (lsL l) wx hx hlsl).mono fun e w' ⟨A', c', h1, h2, h3⟩ => by
              rw [q3, q2] at h1 h2
              exact ⟨A', c', h1, Lib.hid ⟨h2, h3⟩⟩)
          obtain ⟨s3, hs3⟩ : ∃ s3, s3 = (askK s2 (k : Int)).1 := ⟨_, rfl⟩
          have hp3 : s3.p = P ∧ s3.h = h2 := by rw [hs3]; exact ⟨HO2.out.2.2.2, HO2.out.2.2.1⟩
          rw [← hs3] at P3 OA q7
          have HQ := Lib.hid (And.intro q5 (And.intro q6 (And.intro q7 (And.intro OA (And.intro hp3 (And.intro q4 (HO2.out.2.2.2)))))))
          obtain ⟨L, hL⟩ : ∃ L, L = asked.length := ⟨_, rfl⟩
          rw [← hL] at P4 q1 q2
          have HL := Lib.hid hL
          clear hmm hl q3 q4 q5 q6 q7 OA hs3 hp3 hL
          go_upto_region 18 with (first
            | (go_at_call 15; ((with_reducible refine (Hid.out P2).mono ?_); rintro e w4 ⟨Am, cm, rfl, HK4⟩; have H4 := Lib.hid (Hs20.below H.out.lone H3.out HK4.out.2.2.2); have P5 := Lib.hid (P3.out w4 H4.out.kp); clear HK4))
            | (go_at_call 11; ((with_reducible refine (Hid.out P5).mono ?_); rintro e w5 ⟨Aa, ca, rfl, HK5⟩; have H5 := Lib.hid (Hs20.step H4.out HK5.out.2.1 HK5.out.2.2); have P6 := Lib.hid (P4.out Aa ca w5 HK5.out.1); clear HK5 P5))
            | (go_at_call 16; ((with_reducible refine (Hid.out P6).mono ?_); rintro e w6 ⟨An, cn, rfl, HK6⟩; have H6 := Lib.hid (And.intro (Hs20.below H.out.lone H5.out HK6.out.2) (own_moN HK6.out.1 H5.out.kp.below.size)); clear HK6 P6)))
          have HB0 : Hid (Lop20 T w q s3 (hstB A asked (k : Int) 0) (.slice A1 (m + 0) c1) (.slice A2 (m + 0) c2) (m + 0) An cn l w6 ∧ l.length = L) := Lib.hid ⟨⟨by rw [hstB_zero]; have h9 := H6.out.1; exact h9, by rw [q2, HL.out]; have h9 := H6.out.2; rw [HL.out] at h9; exact h9⟩, by rw [q2, HL.out]⟩
          have HLL : Hid (l.length = L) := Lib.hid HB0.out.2
          have hmj : m + L ≤ 2000 := by omega
          clear H6 H5 H4 H3 P2 P3 P4
          go_wp2
          go_loopw [8, 9, 12] (fun va vw vj wr => ∃ (j : Nat) (B1 B2 : Option Addr) (d1 d2 : Nat), j ≤ L ∧ va = .slice B1 (m + j) d1 ∧ vw = .slice B2 (m + j) d2 ∧ vj = .int .i64 j ∧ Hid (Lop20 T w q s3 (hstB A asked (k : Int) j) (.slice B1 (m + j) d1) (.slice B2 (m + j) d2) (m + j) An cn l wr)) (fun _ _ j _ => L - (intOf j).toNat)
          case atStart => exact ⟨0, A1, A2, c1, c2, by omega, rfl, rfl, rfl, Lib.hid HB0.out.1⟩
          case round =>
            clear HB0
            obtain ⟨j, B1, B2, d1, d2, hj, rfl, rfl, rfl, HJ⟩ := hrel
            by_cases hjl : j < L
            · have hji : (j : Int) < (L : Int) := by omega
              have hja : j < asked.length := by rw [← HL.out]; exact hjl
              obtain ⟨N, hN⟩ : ∃ N, N = m + j := ⟨_, rfl⟩
              have hNb : N ≤ 2000 := by omega
              obtain ⟨B, hB⟩ : ∃ B, B = hstB A asked (k : Int) j := ⟨_, rfl⟩
              have hBl : B.length = N := by
                have := HJ.out.1.a.1
                rw [← hB, ← hN, icells_len, List.length_map] at this
                omega
              have hsuc := hstB_succ A (k : Int) hja
              obtain ⟨f1, f2⟩ := HQ.out.2.1 j hja
              have f3 := HQ.out.1 j hja
              have hBt : ∀ a ∈ B, 0 ≤ a.2 ∧ a.2 ≤ (k : Int) := fun a ha => by
                rw [hB] at ha
                rcases List.mem_append.1 ha with ha | ha
                · exact HTK.out a ha
                · obtain ⟨x, _, rfl⟩ := List.mem_map.1 ha
                  exact ⟨by simp only; omega, by simp only; omega⟩
              obtain ⟨x, hx⟩ : ∃ x, x = asked[j].i := ⟨_, rfl⟩
              rw [← hx, ← hB] at f1 f2 hsuc
              rw [← hx] at f3
              rw [HQ.out.2.2.2.2.2.2] at f2
              obtain ⟨xn, hxn⟩ : ∃ xn, xn = l.getD j 0 := ⟨_, rfl⟩
              rw [← hxn] at f3
              have hxl : xn < 65536 := by
                rw [hxn]
                have hjl2 : j < l.length := by rw [HLL.out]; exact hjl
                have e : l.getD j 0 = l[j] := by simp [List.getD, hjl2]
                rw [e]
                exact HQ.out.2.2.2.2.2.1 _ (List.getElem_mem _)
              rw [← hB, ← hN] at HJ
              rw [← hN]
              have HF := Lib.hid (And.intro f1 (And.intro f2 (And.intro hBl (And.intro hBt (And.intro hsuc f3)))))
              have HXN := Lib.hid hxn
              have HNE := Lib.hid hN
              clear f1 f2 f3 hBl hBt hsuc hx hxn hB hN
              have HCn : Hid (∃ bn, An = some ⟨bn, 0, none⟩ ∧ ∀ wx, Lop20 T w q s3 B (.slice B1 N d1) (.slice B2 N d2) N An cn l wx → wx.cell? ⟨bn, j, none⟩ = some (.int .u16 (xn : Int))) := Lib.hid (by
                obtain ⟨bn, e1, _⟩ := own_blockN HJ.out.2 (by rw [HLL.out]; omega)
                refine ⟨bn, e1, fun wx hx => ?_⟩
                have h2 := hx.2
                rw [e1] at h2
                rw [h2.cellAt j (by rw [HLL.out]; omega), hcells_at (by rw [HLL.out]; exact hjl), HXN.out])
              obtain ⟨bn, rfl, hcn⟩ := HCn.out
              have HCN := Lib.hid hcn
              clear hcn HCn
              go_wp2
              go_loopw [13, 14] (fun vt vb wx => ∃ (b2 t2 : Nat), b2 ≤ N ∧ t2 ≤ b2 ∧ vt = .int .i64 t2 ∧ vb = .int .i64 b2 ∧ Hid (t2 = (B.take b2).countP (fun a => decide (a.1 = x))) ∧ Hid (Lop20 T w q s3 B (.slice B1 N d1) (.slice B2 N d2) N (some ⟨bn, 0, none⟩) cn l wx)) (fun _ b _ => N - (intOf b).toNat)
              case atStart => exact ⟨0, 0, by omega, by omega, rfl, rfl, Lib.hid (by simp), HJ⟩
              case round =>
                clear HJ
                obtain ⟨b2, t2, hb2, ht2, rfl, rfl, HT2, HJ⟩ := hrel
                by_cases hbn : b2 < N
                · have hbi : (b2 : Int) < (N : Int) := by omega
                  have hbB : b2 < B.length := by rw [HF.out.2.2.1]; exact hbn
                  obtain ⟨ga, ca2, e1, _, _, hca⟩ := own_ints HJ.out.1.a (by omega)
                  injection e1 with e1 _ e3
                  subst e1
                  obtain ⟨gb, cb2, e1, _, _, hcb⟩ := own_ints HJ.out.1.b (by omega)
                  injection e1 with e1 _ e3
                  subst e1
                  have ka := hca b2 hbn
                  have kb := hcb b2 hbn
                  have ea : (B.map (·.1)).getD b2 0 = B[b2].1 := by simp [List.getD, hbB]
                  have eb : (B.map (·.2)).getD b2 0 = B[b2].2 := by simp [List.getD, hbB]
                  rw [ea] at ka
                  rw [eb] at kb
                  have kn := HCN.out _ HJ.out
                  have hct := count_take B x hbB
                  rw [← HT2.out] at hct
                  have hg := HF.out.2.1 _ (List.getElem_mem hbB)
                  have ht := HF.out.2.2.2.1 _ (List.getElem_mem hbB)
                  obtain ⟨ya, hya⟩ : ∃ ya, ya = B[b2].1 := ⟨_, rfl⟩
                  obtain ⟨tb, htb⟩ : ∃ tb, tb = B[b2].2 := ⟨_, rfl⟩
                  rw [← hya] at ka hct hg
                  rw [← htb] at kb hg ht
                  have hxe := HF.out.2.2.2.2.2
                  have hcv : IntKind.i64.wrap (xn : Int) = (xn : Int) := by rw [IntKind.wrap_i64]; omega
                  have HJ2 : Hid (∀ q2, Lop20 T w q s3 B (.slice (some ⟨ga, 0, none⟩) N d1) (.slice (some ⟨gb, 0, none⟩) N d2) N (some ⟨bn, 0, none⟩) cn l (wr.drewN q2)) := Lib.hid (fun q2 => HJ.out.drewN H.out.lone q2)
                  clear hca hcb ea eb hya htb hbB
                  by_cases hyx : ya = x
                  · rw [if_pos hyx] at hct
                    have HC2 := Lib.hid hct.symm
                    have hgp := hg hyx
                    have hyxn : (ya == (xn : Int)) = true := by rw [hxe]; simpa using hyx
                    have hwk : IntKind.i64.wrap ((k : Int) - tb) = (k : Int) - tb := by rw [IntKind.wrap_i64]; omega
                    have hnl : ¬ ((k : Int) - tb < P) := by omega
                    have kb' : ∀ q2, (wr.drewN q2).cell? ⟨gb, b2, none⟩ = some (.int .i64 tb) := fun _ => kb
                    have ht1 : IntKind.i64.wrap ((t2 : Int) + 1) = (t2 : Int) + 1 := by rw [IntKind.wrap_i64]; omega
                    clear hct hg hyx hxe HT2
                    go_upto_region 25 with (fail)
                    go_quiet (fail)
                    go_wp2
                    go_roundw
                    case rel => exact ⟨b2 + 1, t2 + 1, by omega, by omega, by go_num, by go_num, HC2, Lib.hid (HJ2.out _)⟩
                    case measure => (simp [intOf]; try omega)
                  · rw [if_neg hyx] at hct
                    have HC2 := Lib.hid hct.symm
                    have hyxn : (ya == (xn : Int)) = false := by rw [hxe]; simpa using hyx
                    clear hct hg hyx hxe HT2
                    go_upto_region 25 with (fail)
                    go_quiet (fail)
                    go_wp2
                    go_roundw
                    case rel => exact ⟨b2 + 1, t2, by omega, by omega, rfl, by go_num, HC2, Lib.hid (HJ2.out _)⟩
                    case measure => (simp [intOf]; try omega)
                · obtain rfl : N = b2 := by omega
                  have hn3 : ¬ ((3 : Int) ≤ (t2 : Int)) := by
                    have h1 := HT2.out
                    rw [List.take_of_length_le (by rw [HF.out.2.2.1]; exact Nat.le_refl _)] at h1
                    have h2 := HF.out.1
                    rw [← h1] at h2
                    omega
                  have kn := HCN.out _ HJ.out
                  have hcv : IntKind.i64.wrap (xn : Int) = (xn : Int) := by rw [IntKind.wrap_i64]; omega
                  have hxe := Lib.hid HF.out.2.2.2.2.2
                  have hsz := HJ.out.1.kp.below.size
                  clear HT2
                  go_wp2_with (first
                    | (at_builtin; refine wpList_appV rfl (.tmp 89) (.tmp 95) e64K rfl w.heap.size (.slice B1 N d1) N (icells (B.map (·.1))) rfl (HJ.out.1.a.alloc _) wr.heap.size rfl [.int .i64 (xn : Int)] rfl (by simp [Value.oneCell']) (BlkV.new wr 2 [.int .i64 (xn : Int)]) (by omega) (by simp; omega) ?_; intro u1 w7 ho7 hg7 hn7; obtain ⟨E1, e1, hv7⟩ := own_formN ho7; subst hv7; have H7 := Lib.hid (And.intro (Hs20.first H.out.lone HJ.out.1 ho7 hg7 hn7) (And.intro ho7 (own_other (HJ.out.2.alloc _) hg7 (own_apart HJ.out.1.a HJ.out.2 ne6416)))); have hsz7 := H7.out.1.1.below.size; clear ho7 hg7 hn7)
                    | (at_builtin; refine wpList_appV rfl (.tmp 97) (.tmp 99) e64K rfl w.heap.size (.slice B2 N d2) N (icells (B.map (·.2))) rfl (H7.out.1.2.1.alloc _) w7.heap.size rfl [.int .i64 (k : Int)] rfl (by simp [Value.oneCell']) (BlkV.new w7 2 [.int .i64 (k : Int)]) (by omega) (by simp; omega) ?_; intro u2 w8 ho8 hg8 hn8; obtain ⟨E2, e2, hv8⟩ := own_formN ho8; subst hv8; have H8 := Lib.hid (And.intro (Hs20.second H.out.lone H7.out.1.1 H7.out.2.1 H7.out.1.2.1 H7.out.1.2.2 ho8 hg8 hn8) (own_other (H7.out.2.2.alloc _) hg8 (own_apart H7.out.1.2.1 H7.out.2.2 ne6416))); clear ho8 hg8 hn8))
                  have HNX : Hid (Lop20 T w q s3 (hstB A asked (k : Int) (j + 1)) (.slice E1 (N + 1) e1) (.slice E2 (N + 1) e2) (N + 1) (some ⟨bn, 0, none⟩) cn l w8) := Lib.hid ⟨by rw [HF.out.2.2.2.2.1, ← hxe.out]; exact H8.out.1, H8.out.2⟩
                  have hN1 : m + (j + 1) = N + 1 := by have := HNE.out; omega
                  clear H8 H7 HJ
                  go_roundw
                  case rel => exact ⟨j + 1, E1, E2, e1, e2, by omega, by rw [hN1], by rw [hN1], by go_num, by rw [hN1]; exact HNX⟩
                  case measure => (simp [intOf]; try omega)
            · obtain rfl : L = j := by omega
              have HEND : Hid (Bnd20 T w q P (k + 1) h2 s3 (hstB A asked (k : Int) L) (.slice B1 (m + L) d1) (.slice B2 (m + L) d2) (m + L) wr) := Lib.hid ⟨HJ.out.1, HQ.out.2.2.2.1, by rw [HL.out]; exact HQ.out.2.2.1, HQ.out.2.2.2.2.1.1, ⟨hh2b.1, by have := hh2b.2.1; omega⟩, by rw [HQ.out.2.2.2.2.1.2]; exact Int.le_refl _, by omega, by rw [HQ.out.2.2.2.2.1.2]; omega, fun a ha => by
                rcases List.mem_append.1 ha with ha | ha
                · have := HTK.out a ha; omega
                · obtain ⟨x, _, rfl⟩ := List.mem_map.1 ha
                  exact ⟨by simp only; omega, by simp only; omega⟩⟩
              clear HJ
              go_wp2
              go_roundw
              case rel => exact ⟨k + 1, m + L, h2, s3, _, B1, B2, d1, d2, by omega, by omega, rfl, rfl, rfl, by go_num, HEND⟩
              case measure => (simp [intOf]; try omega)
        · obtain rfl : k = 60 := by omega
          have hki : (60 : Int) < (n : Int) := by omega
          have HE := Lib.hid HS.out.hs.kp.below
          clear HS
          go_wp2
          go_ret
          exact ⟨rfl, HE.out⟩
      · obtain rfl : k = n := by omega
        have HE := Lib.hid HS.out.hs.kp.below
        clear HS
        go_wp2
        go_ret
        exact ⟨rfl, HE.out⟩
end Go.Proofs.Ytkmacpmdgbhhkaa
