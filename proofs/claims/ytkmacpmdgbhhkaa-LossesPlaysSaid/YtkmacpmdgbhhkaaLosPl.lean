/- LossesPlays' walk: whatever comes and is asked, what is missed, and what each tick asks, is the document's. -/
import Derived.Test.YtkmacpmdgbhhkaaLosL3
import Derived.Test.YtkmacpmdgbhhkaaFields
import Derived.Laws.StructEq
import Derived.Deep.RegionHeld3
import Derived.Deep.DeepCutAuto
namespace Go.Proofs.Ytkmacpmdgbhhkaa
open Go.RowKit
set_option linter.unusedVariables false

section
variable {T : World → Value → Kpr → (Nat → Prop) → Prop} {w0 wx : World} {K : Nat → Prop} {q : Addr} {g : Nat} {s t : Kpr}
/-- Both keepers beside each other. -/
abbrev Bth (T : World → Value → Kpr → (Nat → Prop) → Prop) (w0 : World) (K : Nat → Prop) (q : Addr) (g : Nat) (s t : Kpr) (wx : World) : Prop := OnK (PairK T R20 (.pointer (some ⟨g, 0, none⟩))) w0 K (.pointer (some q)) (s, t) wx
theorem Bth.came (hT : Tells20 T) (h : Bth T w0 K q g s t wx) (ok : KOk s) (h1 : s.h ≤ 4611686018427387904) (h2 : s.p ≤ 1000000000) (i tk : Int) (hi : -4611686018427387904 ≤ i ∧ i ≤ 4611686018427387904) (ht : -4611686018427387904 ≤ tk ∧ tk ≤ 4611686018427387904) :
    Calls Try.prog 13 #[.pointer (some q), .int .i64 i, .int .i64 tk] wx fun e w' => e = .returned (.tuple #[]) ∧ Hid (Bth T w0 K q g (cameK s i tk) t w' ∧ SamK K wx w') := by
  obtain ⟨F, f1, f2⟩ := h.one hT.lone r20_lone
  refine (hT.came wx q s F i tk f1 ok h1 h2 hi ht).mono ?_
  rintro e w' ⟨rfl, hk⟩
  obtain ⟨k1, k2⟩ := f2 _ _ _ hk.out.stpB
  exact ⟨rfl, Lib.hid ⟨k1.less (fun k hk => .inl hk), k2⟩⟩
theorem Bth.rcame (hT : Tells20 T) (h : Bth T w0 K q g s t wx) (ok : KOk t) (h1 : t.h ≤ 4611686018427387904) (i tk : Int) (hi : -4611686018427387904 ≤ i ∧ i ≤ 4611686018427387904) :
    Calls Try.prog 14 #[.pointer (some ⟨g, 0, none⟩), .int .i64 i, .int .i64 tk] wx fun e w' => e = .returned (.tuple #[]) ∧ Hid (Bth T w0 K q g s (cameK t i tk) w' ∧ SamK K wx w') := by
  obtain ⟨F, f1, f2⟩ := h.two hT.lone r20_lone
  refine (r20_came _ g rfl t F i tk wx f1 ok (by omega) (by omega)).mono ?_
  rintro e w' ⟨rfl, hk⟩
  obtain ⟨k1, k2⟩ := f2 _ _ _ hk.out.stpB
  exact ⟨rfl, Lib.hid ⟨k1.less (fun k hk => .inl hk), k2⟩⟩
theorem Bth.missing (hT : Tells20 T) (h : Bth T w0 K q g s t wx) (ok : KOk s) :
    Calls Try.prog 15 #[.pointer (some q)] wx fun e w' => ∃ A c, e = .returned (.slice A s.M.length c) ∧ Hid (RdJ w' A s.M.length (s.M.map (·.i)) ∧ Bth T w0 K q g s t w') := by
  obtain ⟨F, f1, f2⟩ := h.one hT.lone r20_lone
  refine (hT.missing wx q s F f1 ok).mono ?_
  rintro e w' ⟨A, c, rfl, hk⟩
  exact ⟨A, c, rfl, Lib.hid ⟨hk.out.1, (h.on (lone_pair hT.lone r20_lone _) hk.out.2).1⟩⟩
theorem Bth.ask (hT : Tells20 T) (h : Bth T w0 K q g s t wx) (ok : KOk s) (h1 : s.h ≤ 4611686018427387904) (h2 : s.p ≤ 1000000000) (tk : Int) (ht : -4611686018427387904 ≤ tk ∧ tk ≤ 4611686018427387904) (L : List (Nat × Nat)) (n : Nat) (hL : lsL (askK s tk).2 = L) (hn : L.length = n) :
    Calls Try.prog 11 #[.pointer (some q), .int .i64 tk] wx fun e w' => ∃ A c, e = .returned (.slice A n c) ∧ Hid (RdL w' A n L ∧ Bth T w0 (fun k => K k ∨ BlkOf A n k) q g (askK s tk).1 t w' ∧ SamK K wx w') := by
  obtain ⟨F, f1, f2⟩ := h.one hT.lone r20_lone
  subst hn
  subst hL
  refine (hT.ask wx q s F tk f1 ok h1 h2 ht).mono ?_
  rintro e w' ⟨A, c, rfl, hk⟩
  exact ⟨A, c, rfl, Lib.hid ⟨hk.out.1, f2 _ _ _ hk.out.2⟩⟩
theorem Bth.rask (hT : Tells20 T) (h : Bth T w0 K q g s t wx) (ok : KOk t) (h2 : t.p ≤ 1000000000) (tk : Int) (ht : -4611686018427387904 ≤ tk ∧ tk ≤ 4611686018427387904) (L : List (Nat × Nat)) (n : Nat) (hL : lsL (askK t tk).2 = L) (hn : L.length = n) :
    Calls Try.prog 12 #[.pointer (some ⟨g, 0, none⟩), .int .i64 tk] wx fun e w' => ∃ A c, e = .returned (.slice A n c) ∧ Hid (RdL w' A n L ∧ Bth T w0 (fun k => K k ∨ BlkOf A n k) q g s (askK t tk).1 w' ∧ SamK K wx w') := by
  obtain ⟨F, f1, f2⟩ := h.two hT.lone r20_lone
  refine (r20_ask _ g rfl t F tk wx f1 ok ht h2 L n hL hn).mono ?_
  rintro e w' ⟨A, c, rfl, hk⟩
  exact ⟨A, c, rfl, Lib.hid ⟨hk.out.1, f2 _ _ _ hk.out.2⟩⟩
/-- The document's row of indices. -/
theorem Bth.row (h : Bth T w0 K q g s t wx) : ∃ A c, wx.cell? ⟨g, 2, none⟩ = some (.slice A t.M.length c) ∧ RdJ wx A t.M.length (t.M.map (·.i)) := by
  obtain ⟨F, ⟨F1, F2, a1, ⟨g2, vI, vT, vN, e1, h1, _⟩, _⟩, _⟩ := h.ex
  cases e1
  obtain ⟨A, c, rfl⟩ := own_formN h1.oi
  exact ⟨A, c, h1.c2, RdJ.of_own h1.oi⟩
end
/-- Both play s, within what statements look at. -/
def Ply20 (T : World → Value → Kpr → (Nat → Prop) → Prop) (w0 : World) (q : Addr) (g : Nat) (s : Kpr) (wx : World) : Prop := Bth T w0 (fun _ => False) q g s s wx ∧ KOk s ∧ s.h ≤ 4611686018427387904 ∧ s.p ≤ 1000000000
theorem loss_same (x y : Nat) (W : World) : (binOp .neq 35 (.agg #[.int .u16 (x : Int), .int .u16 (y : Int)]) (.agg #[.int .u16 (x : Int), .int .u16 (y : Int)])).run Try.prog W = .ok (.bool false) W := by
  rw [run_neq_struct]
  go_simp
/-- Two answers that stand and read alike, beside both keepers. -/
def Cmp20 (T : World → Value → Kpr → (Nat → Prop) → Prop) (w0 : World) (q : Addr) (g : Nat) (s : Kpr) (A B : Option Addr) (m : Nat) (L : List (Nat × Nat)) (wx : World) : Prop := RdL wx A m L ∧ RdL wx B m L ∧ ∃ K, Bth T w0 K q g s s wx
theorem Cmp20.on {T : World → Value → Kpr → (Nat → Prop) → Prop} (hL : Lone T) {w0 wx wy : World} {q : Addr} {g : Nat} {s : Kpr} {A B : Option Addr} {m : Nat} {L : List (Nat × Nat)} (h : Cmp20 T w0 q g s A B m L wx) (hb : Below wx.heap.size wx wy) : Cmp20 T w0 q g s A B m L wy := by
  obtain ⟨h1, h2, K, h3⟩ := h
  exact ⟨h1.below hb, h2.below hb, K, (h3.on (lone_pair hL r20_lone _) hb).1⟩
theorem cameK_h {s : Kpr} {i tk : Int} (h : s.h ≤ 4611686018427387904) (hi : i ≤ 4611686018427387904) : (cameK s i tk).h ≤ 4611686018427387904 := by
  unfold cameK
  split
  · exact h
  · split
    · exact hi
    · split
      · exact hi
      · exact h
theorem askM_len (p tk : Int) : ∀ (L : List Mis) (l : List Nat), (askM p tk L l).2.length ≤ l.length + L.length := fun L l => by
  obtain ⟨_, asked, h2, h3, _⟩ := askM_each p tk L l
  rw [h2, List.length_append, List.length_map]
  have := h3.length_le
  omega

set_option maxRecDepth 100000 in
set_option maxHeartbeats 2000000 in
theorem lossesPlays_walk {T : World → Value → Kpr → (Nat → Prop) → Prop} (hT : Tells20 T) (p : Int) (A : Option Addr) (n cap : Nat) (z : Nat → Nat → Value) (w : World) (hp : -9223372036854775808 ≤ p ∧ p ≤ 9223372036854775807) (hr : RdF [.bool, .int .i64, .int .i64] w A n z) :
    Calls Try.prog 3 #[.int .i64 p, .slice A n cap] w fun e w' => e = .returned (.bool true) ∧ Below w.heap.size w w' := by
  have H := Lib.hid hT
  have HAL := Lib.hid (alive_any20 hT w)
  have hn := hr.small
  have HR := Lib.hid hr
  by_cases hpb : 1000000000 < p
  · clear hr hT HR
    go_enter Try.func3, Try.ntmps3
    go_wp2_with (go_at_call 7; ((with_reducible refine (Hid.out HAL).mono ?_); rintro e w1 ⟨rfl, hb1⟩))
    go_ret
    exact ⟨rfl, hb1⟩
  have HN := Lib.hid (fun wx => hT.new p wx hp)
  have HRN := Lib.hid (fun wx => r20_new p wx)
  have O1 := Lib.hid (newK_ok p)
  have OP : Hid ((newK p).h ≤ 4611686018427387904 ∧ (newK p).p ≤ 1000000000) := Lib.hid (by unfold newK; refine ⟨by simp, ?_⟩; simp only; split <;> omega)
  clear hT hr
  go_enter Try.func3, Try.ntmps3
  go_wp2_with (first
    | (go_at_call 7; ((with_reducible refine (Hid.out HAL).mono ?_); rintro e w1 ⟨rfl, hb1⟩; have HB1 := Lib.hid hb1; clear hb1))
    | (go_at_call 8; ((with_reducible refine (Hid.out HN _).mono ?_); rintro e w2 ⟨q, F, rfl, HK⟩; have HO := Lib.hid (OnK.new HB1.out HK.out); clear HK))
    | (go_at_call 9; ((with_reducible refine (Hid.out HRN _).mono ?_); rintro e w3 ⟨g, F2, rfl, HK2⟩; have HP : Hid (Ply20 T w q g (newK p) w3) := Lib.hid ⟨(OnK.pair H.out.lone HO.out HK2.out).1, O1.out, OP.out⟩; clear HK2)))
  go_loopw [7] (fun vi wr => ∃ (k : Nat) (s : Kpr), k ≤ n ∧ k ≤ 80 ∧ vi = .int .i64 k ∧ Hid (Ply20 T w q g s wr)) (fun i _ => n - (intOf i).toNat)
  case atStart => exact ⟨0, _, by omega, by omega, rfl, HP⟩
  case round =>
    clear HP HO HN HRN HAL HB1 O1 OP
    obtain ⟨k, s, hk, hk80, rfl, HS⟩ := hrel
    by_cases hlt : k < n
    · by_cases hk8 : k < 80
      · have hki : (k : Int) < (n : Int) := by omega
        have hk8i : (k : Int) < 80 := by omega
        obtain ⟨b, off, rfl, hcs⟩ := HR.out.at_ (by omega)
        obtain ⟨av, hav⟩ := HR.out.2.1 k hlt 0 _ rfl
        obtain ⟨iv, hiv, wiv⟩ := HR.out.2.1 k hlt 1 _ rfl
        obtain ⟨tv, htv, wtv⟩ := HR.out.2.1 k hlt 2 _ rfl
        have HCell : Hid (∀ wx, Below w.heap.size w wx → wx.cell? ⟨b, off + k * 3, none⟩ = some (.bool av) ∧ wx.cell? ⟨b, off + k * 3 + 1, none⟩ = some (.int .i64 iv) ∧ wx.cell? ⟨b, off + k * 3 + 2, none⟩ = some (.int .i64 tv)) := Lib.hid fun wx hb => ⟨by rw [← hav]; exact hcs wx hb k hlt 0 (by decide), by rw [← hiv]; exact hcs wx hb k hlt 1 (by decide), by rw [← htv]; exact hcs wx hb k hlt 2 (by decide)⟩
        clear hcs hav hiv htv wiv wtv
        obtain ⟨c0, c1, c2⟩ := HCell.out wr HS.out.1.below
        have HG := Lib.hid (great20_any av iv tv wr)
        by_cases hg : gr20 iv tv = true
        · rw [hg] at HG
          go_wp2_with (go_at_call 10; ((with_reducible refine (Hid.out HG).mono ?_); rintro e w2 ⟨rfl, hb2⟩))
          go_ret
          exact ⟨rfl, HS.out.1.below.trans (hb2.mono HS.out.1.below.size)⟩
        · have hg2 : gr20 iv tv = false := by simpa using hg
          rw [hg2] at HG
          have hiv : -4611686018427387904 ≤ iv ∧ iv ≤ 4611686018427387904 ∧ -4611686018427387904 ≤ tv ∧ tv ≤ 4611686018427387904 := by
            unfold gr20 at hg2
            have := of_decide_eq_false hg2
            omega
          clear hg hg2
          go_upto_if 40 with (go_at_call 10; ((with_reducible refine (Hid.out HG).mono ?_); rintro e w2 ⟨rfl, hb2⟩; have HS2 : Hid (Ply20 T w q g s w2) := Lib.hid ⟨(HS.out.1.on (lone_pair H.out.lone r20_lone _) hb2).1, HS.out.2⟩; obtain ⟨d0, d1, d2⟩ := HCell.out w2 HS2.out.1.below; clear hb2))
          go_cut [8, 9, 10] (fun _ _ _ wx => ∃ s, Hid (Ply20 T w q g s wx))
          case first =>
            cases av with
            | true =>
              obtain ⟨L, hL⟩ : ∃ L, L = lsL (askK s tv).2 := ⟨_, rfl⟩
              obtain ⟨m, hm⟩ : ∃ m, m = L.length := ⟨_, rfl⟩
              have hmb : m ≤ 1000 := by
                have h1 := lsL_len (askK s tv).2
                have h2 := askM_len s.p tv s.M []
                have h3 := HS2.out.2.1.len
                have h4 : (askK s tv).2 = (askM s.p tv s.M []).2 := rfl
                rw [hm, hL]
                rw [h4] at h1 ⊢
                simp only [List.length_nil] at h2
                omega
              have hd : Below w2.heap.size w2 w2.drew := ⟨rfl, rfl, rfl, Nat.le_refl _, fun _ _ => rfl⟩
              have HSd := Lib.hid (HS2.out.1.on (lone_pair H.out.lone r20_lone _) hd).1
              have HS0 : Hid (w2.drew.cell? ⟨b, off + k * 3 + 2, none⟩ = some (.int .i64 tv)) := Lib.hid d2
              have P1 := Lib.hid (Bth.ask H.out HSd.out HS2.out.2.1 HS2.out.2.2.1 HS2.out.2.2.2 tv hiv.2.2 L m hL.symm hm.symm)
              have HR1 : Hid (∀ (K : Nat → Prop) s' wx, Bth T w K q g s' s wx → Calls Try.prog 12 #[.pointer (some ⟨g, 0, none⟩), .int .i64 tv] wx fun e w' => ∃ A c, e = .returned (.slice A m c) ∧ Hid (RdL w' A m L ∧ Bth T w (fun k => K k ∨ BlkOf A m k) q g s' (askK s tv).1 w' ∧ SamK K wx w')) := Lib.hid (fun K s' wx h => Bth.rask H.out h HS2.out.2.1 HS2.out.2.2.2 tv hiv.2.2 L m hL.symm hm.symm)
              have HFIN : Hid (∀ K wx, Bth T w K q g (askK s tv).1 (askK s tv).1 wx → Ply20 T w q g (askK s tv).1 wx) := Lib.hid (fun K wx h => ⟨OnK.less h (fun k hk => hk.elim), askK_ok HS2.out.2.1 tv, HS2.out.2.2.1, HS2.out.2.2.2⟩)
              clear hL hm hd c0 c1 c2
              go_wp2
              go_region_held3 (fun wx => wx.cell? ⟨b, off + k * 3 + 2, none⟩ = some (.int .i64 tv))
                (first | with_reducible exact HS0.out | with_reducible exact HS3.out | with_reducible exact HS4.out)
                (first
                  | (go_at_call 11; (with_reducible refine (Hid.out P1).mono ?_); rintro e w3 ⟨Aa, ca, rfl, HK3⟩; have HS3 := Lib.hid (HCell.out w3 HK3.out.2.1.below).2.2; have P2 := Lib.hid (HR1.out _ _ w3 HK3.out.2.1))
                  | (go_at_call 12; (with_reducible refine (Hid.out P2).mono ?_); rintro e w4 ⟨Ab, cb, rfl, HK4⟩; have HS4 := Lib.hid (HCell.out w4 HK4.out.2.1.below).2.2))
              have HB4 : Hid (Cmp20 T w q g (askK s tv).1 Aa Ab m L w4) := Lib.hid ⟨HK3.out.1.sam (fun k hk => HK4.out.2.2 k (.inr hk)), HK4.out.1, _, HK4.out.2.1⟩
              clear HS0 HS3 HS4 P1 P2 HR1 HK3 HK4 HSd
              go_wp2
              go_loopw [10] (fun vj wr => ∃ j : Nat, j ≤ m ∧ vj = .int .i64 j ∧ Hid (Cmp20 T w q g (askK s tv).1 Aa Ab m L wr)) (fun j _ => m - (intOf j).toNat)
              case atStart => exact ⟨0, by omega, rfl, HB4⟩
              case round =>
                clear HB4
                obtain ⟨j, hj, rfl, HQ⟩ := hrel
                by_cases hjm : j < m
                · have hji : (j : Int) < (m : Int) := by omega
                  obtain ⟨ba, oa, hA1, _, hca⟩ := HQ.out.1.2.2.2 (by omega)
                  obtain ⟨bb, ob, hA2, _, hcb⟩ := HQ.out.2.1.2.2.2 (by omega)
                  subst hA1
                  subst hA2
                  obtain ⟨a0, a1⟩ := hca j hjm
                  obtain ⟨b0, b1⟩ := hcb j hjm
                  obtain ⟨x1, hx1⟩ : ∃ x1, x1 = (L.getD j (0, 0)).1 := ⟨_, rfl⟩
                  obtain ⟨x2, hx2⟩ : ∃ x2, x2 = (L.getD j (0, 0)).2 := ⟨_, rfl⟩
                  rw [← hx1] at a0 b0
                  rw [← hx2] at a1 b1
                  have hne := loss_same x1 x2
                  have HON : Hid (∀ q2, Cmp20 T w q g (askK s tv).1 (some ⟨ba, oa, none⟩) (some ⟨bb, ob, none⟩) m L (wr.drewN q2)) := Lib.hid (fun q2 => HQ.out.on H.out.lone ⟨rfl, rfl, rfl, Nat.le_refl _, fun _ _ => rfl⟩)
                  clear hca hcb hx1 hx2 HQ
                  go_upto_region 18 with (fail)
                  go_quiet (fail)
                  go_wp2
                  go_roundw
                  case rel => exact ⟨j + 1, by omega, by go_num, Lib.hid (HON.out _)⟩
                  case measure => (simp [intOf]; try omega)
                · obtain rfl : m = j := by omega
                  go_wp2
                  go_meet
                  exact ⟨_, Lib.hid (by obtain ⟨K, hK⟩ := HQ.out.2.2; exact HFIN.out K wr hK)⟩
            | false =>
              have hd : Below w2.heap.size w2 w2.drew := ⟨rfl, rfl, rfl, Nat.le_refl _, fun _ _ => rfl⟩
              have HSd := Lib.hid (HS2.out.1.on (lone_pair H.out.lone r20_lone _) hd).1
              have HS0 : Hid (w2.drew.cell? ⟨b, off + k * 3 + 1, none⟩ = some (.int .i64 iv) ∧ w2.drew.cell? ⟨b, off + k * 3 + 2, none⟩ = some (.int .i64 tv)) := Lib.hid ⟨d1, d2⟩
              have P1 := Lib.hid (Bth.came H.out HSd.out HS2.out.2.1 HS2.out.2.2.1 HS2.out.2.2.2 iv tv ⟨hiv.1, hiv.2.1⟩ hiv.2.2)
              have HR1 : Hid (∀ s' wx, Bth T w (fun _ => False) q g s' s wx → Calls Try.prog 14 #[.pointer (some ⟨g, 0, none⟩), .int .i64 iv, .int .i64 tv] wx fun e w' => e = .returned (.tuple #[]) ∧ Hid (Bth T w (fun _ => False) q g s' (cameK s iv tv) w' ∧ SamK (fun _ => False) wx w')) := Lib.hid (fun s' wx h => Bth.rcame H.out h HS2.out.2.1 HS2.out.2.2.1 iv tv ⟨hiv.1, hiv.2.1⟩)
              have HFIN : Hid (∀ wx, Bth T w (fun _ => False) q g (cameK s iv tv) (cameK s iv tv) wx → Ply20 T w q g (cameK s iv tv) wx) := Lib.hid (fun wx h => ⟨h, cameK_ok HS2.out.2.1 iv tv, cameK_h HS2.out.2.2.1 hiv.2.1, by rw [cameK_p]; exact HS2.out.2.2.2⟩)
              clear hd c0 c1 c2
              go_upto_region 20 with (fail)
              go_region_held3 (fun wx => wx.cell? ⟨b, off + k * 3 + 1, none⟩ = some (.int .i64 iv) ∧ wx.cell? ⟨b, off + k * 3 + 2, none⟩ = some (.int .i64 tv))
                (first | with_reducible exact HS0.out | with_reducible exact HS3.out)
                ((go_at_call 13; (with_reducible refine (Hid.out P1).mono ?_); rintro e w3 ⟨rfl, HK3⟩; have HS3 := Lib.hid (HCell.out w3 HK3.out.1.below).2))
              have hd3 : Below w3.heap.size w3 w3.drew := ⟨rfl, rfl, rfl, Nat.le_refl _, fun _ _ => rfl⟩
              have HSd3 := Lib.hid (HK3.out.1.on (lone_pair H.out.lone r20_lone _) hd3).1
              have HS4 : Hid (w3.drew.cell? ⟨b, off + k * 3 + 1, none⟩ = some (.int .i64 iv) ∧ w3.drew.cell? ⟨b, off + k * 3 + 2, none⟩ = some (.int .i64 tv)) := Lib.hid HS3.out
              have P2 := Lib.hid (HR1.out _ _ HSd3.out)
              clear HS0 HS3 P1 HR1 hd3
              go_upto_region 21 with (fail)
              go_region_held3 (fun wx => wx.cell? ⟨b, off + k * 3 + 1, none⟩ = some (.int .i64 iv) ∧ wx.cell? ⟨b, off + k * 3 + 2, none⟩ = some (.int .i64 tv))
                (first | with_reducible exact HS4.out | with_reducible exact HS5.out)
                ((go_at_call 14; (with_reducible refine (Hid.out P2).mono ?_); rintro e w4 ⟨rfl, HK4⟩; have HS5 := Lib.hid (HCell.out w4 HK4.out.1.below).2))
              go_wp2
              go_meet
              exact ⟨_, Lib.hid (HFIN.out _ HK4.out.1)⟩
          case rest =>
            clear HS2 d0 d1 d2 HG c0 c1 c2 HS
            obtain ⟨s, HS⟩ := hcut
            have P1 := Lib.hid (Bth.missing H.out HS.out.1 HS.out.2.1)
            obtain ⟨m, hm⟩ : ∃ m, m = s.M.length := ⟨_, rfl⟩
            have hmb : m ≤ 32 := by rw [hm]; exact HS.out.2.1.len
            rw [← hm] at P1
            have HM := Lib.hid hm
            clear hm
            go_upto_region 23 with (go_at_call 15; ((with_reducible refine (Hid.out P1).mono ?_); rintro e w3 ⟨Am, cm, rfl, HK3⟩))
            obtain ⟨Ar, cr, hcr, hrr⟩ := HK3.out.2.row
            rw [← HM.out] at hcr hrr
            have HQ3 : Hid (RdJ w3 Am m (s.M.map (·.i)) ∧ RdJ w3 Ar m (s.M.map (·.i)) ∧ Ply20 T w q g s w3 ∧ w3.cell? ⟨g, 2, none⟩ = some (.slice Ar m cr)) := Lib.hid ⟨HK3.out.1, hrr, ⟨HK3.out.2, HS.out.2⟩, hcr⟩
            clear hrr HK3 P1 HS
            go_wp2
            go_loopw [12] (fun vj wr => ∃ j : Nat, j ≤ m ∧ vj = .int .i64 j ∧ Hid (RdJ wr Am m (s.M.map (·.i)) ∧ RdJ wr Ar m (s.M.map (·.i)) ∧ Ply20 T w q g s wr ∧ wr.cell? ⟨g, 2, none⟩ = some (.slice Ar m cr))) (fun j _ => m - (intOf j).toNat)
            case atStart => exact ⟨0, by omega, rfl, HQ3⟩
            case round =>
              clear HQ3 hcr
              obtain ⟨j, hj, rfl, HQ⟩ := hrel
              by_cases hjm : j < m
              · have hji : (j : Int) < (m : Int) := by omega
                have hcr := HQ.out.2.2.2
                obtain ⟨ba, oa, hA1, _, hca⟩ := HQ.out.1.2 (by omega)
                obtain ⟨bb, ob, hA2, _, hcb⟩ := HQ.out.2.1.2 (by omega)
                subst hA1
                subst hA2
                have a0 := hca j hjm
                have b0 := hcb j hjm
                obtain ⟨x1, hx1⟩ : ∃ x1, x1 = (s.M.map (·.i)).getD j 0 := ⟨_, rfl⟩
                rw [← hx1] at a0 b0
                have HON : Hid (∀ q2, RdJ (wr.drewN q2) (some ⟨ba, oa, none⟩) m (s.M.map (·.i)) ∧ RdJ (wr.drewN q2) (some ⟨bb, ob, none⟩) m (s.M.map (·.i)) ∧ Ply20 T w q g s (wr.drewN q2) ∧ (wr.drewN q2).cell? ⟨g, 2, none⟩ = some (.slice (some ⟨bb, ob, none⟩) m cr)) := Lib.hid (fun q2 => by
                  have hb : Below wr.heap.size wr (wr.drewN q2) := ⟨rfl, rfl, rfl, Nat.le_refl _, fun _ _ => rfl⟩
                  exact ⟨HQ.out.1.below hb, HQ.out.2.1.below hb, ⟨(HQ.out.2.2.1.1.on (lone_pair H.out.lone r20_lone _) hb).1, HQ.out.2.2.1.2⟩, HQ.out.2.2.2⟩)
                clear hca hcb hx1 HQ
                go_upto_region 28 with (fail)
                go_quiet (fail)
                go_wp2
                go_roundw
                case rel => exact ⟨j + 1, by omega, by go_num, Lib.hid (HON.out _)⟩
                case measure => (simp [intOf]; try omega)
              · obtain rfl : m = j := by omega
                have hcr := HQ.out.2.2.2
                have HE := Lib.hid HQ.out.2.2.1
                clear HQ
                go_wp2
                go_roundw
                case rel => exact ⟨k + 1, s, by omega, by omega, by go_num, HE⟩
                case measure => (simp [intOf]; try omega)
      · obtain rfl : k = 80 := by omega
        have hki : (80 : Int) < (n : Int) := by omega
        have HE := Lib.hid HS.out.1.below
        clear HS
        go_wp2
        go_ret
        exact ⟨rfl, HE.out⟩
    · obtain rfl : k = n := by omega
      have HE := Lib.hid HS.out.1.below
      clear HS
      go_wp2
      go_ret
      exact ⟨rfl, HE.out⟩
end Go.Proofs.Ytkmacpmdgbhhkaa
