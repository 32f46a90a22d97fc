/- What the document's answers for layer 20 (tenailleref20) answer: a tick's asking (rask_any20; printed by gen/losask.py). No statement is proved here. -/
import Derived.Test.YtkmacpmdgbhhkaaLosR9
namespace Go.Proofs.Ytkmacpmdgbhhkaa
open Go.RowKit
set_option linter.unusedVariables false

theorem ne16K : (33 : TypeId) ≠ 41 := by decide
theorem ne16i : (33 : TypeId) ≠ 3 := by decide
theorem ne16x : (33 : TypeId) ≠ 2 := by decide
theorem step_two {wr wa w2 : World} {b m : Nat} {v2 : Value} {l : List Nat} (hb : Below wr.heap.size wr wa) (ho : w2.ownsRow wr.heap.size 33 1 v2 (0 + m) ([] ++ hcells l)) (hg : wa.grownBy w2 (some b)) (h : wr.heap.size ≤ b) : w2.ownsRow wr.heap.size 33 1 v2 m (hcells l) ∧ Below wr.heap.size wr w2 :=
  ⟨by rw [Nat.zero_add, List.nil_append] at ho; exact ho, hb.grown hg hb.size (fun p hp => by injection hp with hp; omega)⟩
theorem Ask20.drew {w : World} {g : Nat} {F : Nat → Prop} {p hh tk : Int} {D : List Mis} {k : Nat} {vl : Value} {m : Nat} {wr : World} (h : Ask20 w g F p hh tk D k vl m wr) : Ask20 w g F p hh tk D k vl m wr.drew := by
  obtain ⟨M, l, vI, vT, vN, a1, a2, a3, a4, a5⟩ := h
  exact ⟨M, l, vI, vT, vN, a1.below ⟨rfl, rfl, rfl, Nat.le_refl _, fun _ _ => rfl⟩, a2, a3, a4, a5⟩
/-- From behind, the missed ones are left out, what is asked stands. -/
def Left20 (w : World) (g : Nat) (F : Nat → Prop) (p hh : Int) (M : List Mis) (l : List Nat) (vl : Value) (m j : Nat) (wr : World) : Prop :=
  ∃ vI vT vN, Way20 w g F ⟨p, hh, leftM M j⟩ vI vT vN wr ∧ wr.ownsRow w.heap.size 33 1 vl m (hcells l)
/-- What a tick's asking leaves. -/
def Fin20 (w : World) (g : Nat) (F : Nat → Prop) (s : Kpr) (tk : Int) (A : Option Addr) (c : Nat) (w' : World) : Prop :=
  w'.ownsRow w.heap.size 35 2 (.slice A (lsL (askK s tk).2).length c) (lsL (askK s tk).2).length (lcells (lsL (askK s tk).2)) ∧ ∃ vI vT vN, Way20 w g F (askK s tk).1 vI vT vN w'

set_option maxHeartbeats 8000000 in
set_option maxRecDepth 100000 in
theorem rask_any20 (g : Nat) (s : Kpr) (vI0 vT0 vN0 : Value) (tk : Int) (w : World) (h : RKp 0 g s vI0 vT0 vN0 w) (hk : KOk s) (ht1 : -9223372036854775808 ≤ tk ∧ tk ≤ 9223372036854775807) (ht2 : -9223372036854775808 ≤ tk + s.p ∧ tk + s.p ≤ 9223372036854775807) :
    Calls Try.prog 12 #[.pointer (some ⟨g, 0, none⟩), .int .i64 tk] w fun e w' => ∃ A c, e = .returned (.slice A (lsL (askK s tk).2).length c) ∧ Hid (Fin20 w g (FKp g vI0 vT0 vN0) s tk A c w') := by
  obtain ⟨F, hF⟩ : ∃ F, F = FKp g vI0 vT0 vN0 := ⟨_, rfl⟩
  obtain ⟨p, hp⟩ : ∃ p, p = s.p := ⟨_, rfl⟩
  obtain ⟨hh, hhh⟩ : ∃ hh, hh = s.h := ⟨_, rfl⟩
  obtain ⟨D, hD⟩ : ∃ D, D = s.M := ⟨_, rfl⟩
  have HPS := Lib.hid (And.intro hp (And.intro hhh hD))
  have hs : s = ⟨p, hh, D⟩ := by rw [hp, hhh, hD]
  have hDl := hk.len
  have hDt := hk.t
  have hDb := hk.bel
  rw [← hD] at hDl hDt hDb
  rw [← hF]
  rw [← hp] at ht2
  have HS0 : Hid (Ask20 w g F p hh tk D 0 (.slice none 0 0) 0 w) := Lib.hid ⟨D, [], vI0, vT0, vN0, by rw [hF, ← hs]; exact Way20.start h, AskW.start _ _ _, by simpa [hcells] using World.ownsRow_nil w _ _ _, (fun x hx => by cases hx), fun _ => rfl⟩
  obtain ⟨N, hN⟩ : ∃ N, N = D.length := ⟨_, rfl⟩
  rw [← hN] at hDl
  have HN := Lib.hid hN
  have HDT := Lib.hid hDt
  have HDB := Lib.hid hDb
  obtain ⟨AI0, cI0, hvI0⟩ := own_formN h.oi
  have hc20 := h.c2
  rw [hvI0, ← hD, ← hN] at hc20
  have HCL : Hid (∀ m A c wr, Ask20 w g F p hh tk D N (.slice A m c) m wr → Asked20 w g F p hh tk D (.slice A m c) m wr) := Lib.hid (fun m A c wr hx => by
    obtain ⟨M, l, vI, vT, vN, a1, a2, a3, a4, a5⟩ := hx
    rw [HN.out] at a2
    exact ⟨M, l, vI, vT, vN, a1, a2.done, a2.len, a3, a4⟩)
  have HC2 : Hid (∀ k m A c wr, Ask20 w g F p hh tk D k (.slice A m c) m wr → ∃ AI cI, wr.cell? ⟨g, 2, none⟩ = some (.slice AI N cI)) := Lib.hid (fun k m A c wr hx => by
    obtain ⟨M, l, vI, vT, vN, a1, a2, a3, a4, a5⟩ := hx
    obtain ⟨AI, cI, hv⟩ := own_formN a1.kp.oi
    have := a1.kp.c2
    rw [hv] at this
    simp only at this
    rw [a2.len, ← HN.out] at this
    exact ⟨AI, cI, this⟩)
  clear h hF hp hhh hD hs hN hk hDt hDb hvI0
  go_enter Try.func12, Try.ntmps12
  go_wp2
  go_loopw [5, 6] (fun vl vx wr => ∃ (k m : Nat) (A : Option Addr) (c : Nat), k ≤ N ∧ m ≤ k ∧ vl = .slice A m c ∧ vx = .int .i64 k ∧ Hid (Ask20 w g F p hh tk D k (.slice A m c) m wr)) (fun _ x _ => N - (intOf x).toNat)
  case atStart => exact ⟨0, 0, none, 0, by omega, by omega, rfl, rfl, HS0⟩
  case round =>
    clear HS0 hc20
    obtain ⟨k, m, A, c, hkN, hmk, rfl, rfl, HX⟩ := hrel
    obtain ⟨AI, cI, hc2⟩ := HC2.out _ _ _ _ _ HX.out
    by_cases hlt : k < N
    · have hki : (k : Int) < (N : Int) := by omega
      clear hc2
      obtain ⟨M, l, vI, vT, vN, HW, HAW, HO, HU, HNL⟩ := HX.out
      have hkM : k < M.length := by rw [HAW.len, ← HN.out]; exact hlt
      have hhere := HAW.here hkM
      obtain ⟨bI, bT, bN, cI, cT, cN, rfl, rfl, rfl, hcc⟩ := HW.cells k hkM
      have hMN : M.length = N := by rw [HAW.len, HN.out]
      have hb := HDB.out M[k] (by rw [hhere]; exact List.getElem_mem _)
      have hT := HDT.out M[k] (by rw [hhere]; exact List.getElem_mem _)
      rw [hMN] at hcc
      obtain ⟨k0, k2, k3, k4, k5, k6, k7⟩ := hcc wr (Below.refl _ _)
      by_cases hsk : tk < M[k].n
      · have HNX : Hid (Ask20 w g F p hh tk D (k + 1) (.slice A m c) m wr) := Lib.hid ⟨M, l, _, _, _, HW, HAW.skip hkM hsk, HO, HU, HNL⟩
        obtain ⟨y, hy⟩ : ∃ y, y = M[k].n := ⟨_, rfl⟩
        rw [← hy] at k7 hsk
        clear hy hb hT hcc HW HAW HO HU HNL hkM hhere hMN HX k5 k6
        go_wp2
        go_roundw
        case rel => exact ⟨k + 1, m, A, c, by omega, by omega, rfl, by go_num, HNX⟩
        case measure => simp [intOf]; omega
      · obtain ⟨y, hy⟩ : ∃ y, y = (M[k].i % 65536).toNat := ⟨_, rfl⟩
        have hym : M[k].i % 65536 = (y : Int) := by rw [hy]; omega
        have hy65 : y < 65536 := by omega
        have HST := Lib.hid (HAW.stop hkM hsk)
        have HMO := Lib.hid (HAW.more hkM hsk)
        rw [← hy] at HST HMO
        have HTU := Lib.hid (HW.turned k hkM (M[k].t + 1) (tk + p))
        obtain ⟨xi, hxi⟩ : ∃ xi, xi = M[k].i := ⟨_, rfl⟩
        obtain ⟨xt, hxt⟩ : ∃ xt, xt = M[k].t := ⟨_, rfl⟩
        obtain ⟨xn, hxn⟩ : ∃ xn, xn = M[k].n := ⟨_, rfl⟩
        rw [← hxi] at k5 hym hb
        rw [← hxt] at k6 hT
        rw [← hxn] at k7 hsk
        have hsk2 : xn ≤ tk := by omega
        have hyw : IntKind.u16.wrap (xi.tmod 65536) = (y : Int) := by rw [IntKind.wrap_u16, Int.tmod_eq_emod_of_nonneg hb.1]; omega
        have htw : IntKind.i64.wrap (xt + 1) = xt + 1 := by rw [IntKind.wrap_i64]; omega
        have hpw : IntKind.i64.wrap (tk + p) = tk + p := by rw [IntKind.wrap_i64]; omega
        have HCC : Hid (∀ wx, Below wr.heap.size wr wx → wx.cell? ⟨g, 0, none⟩ = some (.int .i64 p) ∧ wx.cell? ⟨g, 2, none⟩ = some (.slice (some ⟨bI, 0, none⟩) N cI) ∧ wx.cell? ⟨g, 3, none⟩ = some (.slice (some ⟨bT, 0, none⟩) N cT) ∧ wx.cell? ⟨g, 4, none⟩ = some (.slice (some ⟨bN, 0, none⟩) N cN) ∧ wx.cell? ⟨bI, k, none⟩ = some (.int .i64 xi) ∧ wx.cell? ⟨bT, k, none⟩ = some (.int .i64 xt) ∧ wx.cell? ⟨bN, k, none⟩ = some (.int .i64 xn)) := Lib.hid (by rw [hxi, hxt, hxn]; exact hcc)
        have HXT := Lib.hid hxt
        have HXI := Lib.hid hxi
        clear hcc hxi hxt hxn hsk hy
        go_upto_region 6 with (fail)
        go_cut [7] (fun v wx => ∃ A7 c7, v = .slice A7 (m + 1) c7 ∧ Hid (wx.ownsRow wr.heap.size 33 1 (.slice A7 (m + 1) c7) (m + 1) (hcells (l ++ [y])) ∧ Below wr.heap.size wr wx))
        case first =>
          have HSL : Hid (∀ wx, Below wr.heap.size wr wx → SrcL wx 1 A m c (hcells l)) := Lib.hid (fun wx hb => SrcL.of_own (own_keep HO hb) (hcells_one l))
          have hd2 : wr.drew.cell? ⟨g, 2, none⟩ = some (.slice (some ⟨bI, 0, none⟩) N cI) := k2
          have hd5 : wr.drew.cell? ⟨bI, k, none⟩ = some (.int .i64 xi) := k5
          have hE2 : ∀ o, (wr.alloc o).cell? ⟨g, 2, none⟩ = some (.slice (some ⟨bI, 0, none⟩) N cI) := fun o => (HCC.out _ ((Below.refl _ _).alloc (Nat.le_refl _) o)).2.1
          have hE5 : ∀ o, (wr.alloc o).cell? ⟨bI, k, none⟩ = some (.int .i64 xi) := fun o => (HCC.out _ ((Below.refl _ _).alloc (Nat.le_refl _) o)).2.2.2.2.1
          obtain ⟨E, hE⟩ : ∃ E : Obj, E = .cells ([] : List Value).toArray 33 := ⟨_, rfl⟩
          have b1 : Below wr.heap.size wr ((wr.alloc (.cells ([] : List Value).toArray 33)).drew) := ((Below.refl _ _).alloc (Nat.le_refl _) _).drew
          have b2 : Below wr.heap.size wr (((wr.alloc (.cells ([] : List Value).toArray 33)).alloc (.cells [Value.int .u16 (y : Int)].toArray 33)).drew) := (twoBelow wr _ _).drew
          have b3 : Below wr.heap.size wr (((wr.alloc (.cells [Value.int .u16 (y : Int)].toArray 33)).alloc (.cells ([] : List Value).toArray 33)).drew) := (twoBelow wr _ _).drew
          have o1 := emp_own (BlkV.new wr 33 []).drew (Nat.le_refl _)
          have o2 := emp_own ((BlkV.new wr 33 []).alloc (.cells [Value.int .u16 (y : Int)].toArray 33)).drew (Nat.le_refl _)
          have o3 := emp_own (base := wr.heap.size) (twoB wr (.cells [Value.int .u16 (y : Int)].toArray 33) [] 33).drew (Nat.le_succ _)
          have y2 := (twoB wr (.cells ([] : List Value).toArray 33) [Value.int .u16 (y : Int)] 33).drew
          have y3 := ((BlkV.new wr 33 [Value.int .u16 (y : Int)]).alloc (.cells ([] : List Value).toArray 33)).drew
          have S1 := HSL.out _ b1
          have S2 := HSL.out _ b2
          have S3 := HSL.out _ b3
          have HFACT := Lib.hid (And.intro (And.intro b1 (And.intro b2 b3)) (And.intro (And.intro o1 (And.intro o2 o3)) (And.intro (And.intro y2 y3) (And.intro S1 (And.intro S2 S3)))))
          clear hE E b1 b2 b3 o1 o2 o3 y2 y3 S1 S2 S3 k2 k3 k4 k5 k6 k7 k0 HTU HMO HST HX HW HU HNL
          go_region_law (first
            | (refine step_appL (by rfl) (.tmp 27) (.tmp 28) e16K (by rfl) wr.heap.size (.slice (some ⟨wr.heap.size, 0, none⟩) 0 0) 0 [] (by rfl) HFACT.out.2.1.1 A m c (by rfl) (hcells l) HFACT.out.2.2.2.1 (by omega) HFACT.out.1.1.size ?_; intro v2 w2 ho2 hg2 hn2; have HS2 := Lib.hid (step_two HFACT.out.1.1 ho2 hg2 (Nat.le_refl _)); obtain ⟨A2, c2, hv2⟩ := own_formN ho2; rw [Nat.zero_add] at hv2; subst hv2; obtain ⟨_, j2, _, _, j5, _, _⟩ := HCC.out w2 HS2.out.2; clear ho2 hg2 hn2)
            | (refine step_appL (by rfl) (.tmp 27) (.tmp 28) e16K (by rfl) wr.heap.size (.slice (some ⟨wr.heap.size, 0, none⟩) 0 0) 0 [] (by rfl) HFACT.out.2.1.2.1 A m c (by rfl) (hcells l) HFACT.out.2.2.2.2.1 (by omega) HFACT.out.1.2.1.size ?_; intro v2 w2 ho2 hg2 hn2; have HS2 := Lib.hid (step_two HFACT.out.1.2.1 ho2 hg2 (Nat.le_refl _)); have HY2 := Lib.hid (HFACT.out.2.2.1.1.grown hg2 (fun e => absurd (Option.some.inj e) (Nat.succ_ne_self _))); obtain ⟨A2, c2, hv2⟩ := own_formN ho2; rw [Nat.zero_add] at hv2; subst hv2; clear ho2 hg2 hn2)
            | (refine step_appL (by rfl) (.tmp 27) (.tmp 28) e16K (by rfl) wr.heap.size (.slice (some ⟨wr.heap.size + 1, 0, none⟩) 0 0) 0 [] (by rfl) HFACT.out.2.1.2.2 A m c (by rfl) (hcells l) HFACT.out.2.2.2.2.2 (by omega) HFACT.out.1.2.2.size ?_; intro v2 w2 ho2 hg2 hn2; have HS2 := Lib.hid (step_two HFACT.out.1.2.2 ho2 hg2 (Nat.le_succ _)); have HY2 := Lib.hid (HFACT.out.2.2.1.2.grown hg2 (fun e => absurd (Option.some.inj e).symm (Nat.succ_ne_self _))); obtain ⟨A2, c2, hv2⟩ := own_formN ho2; rw [Nat.zero_add] at hv2; subst hv2; clear ho2 hg2 hn2)
            | (refine step_appV (by rfl) (.tmp 29) (.tmp 39) e16K (by rfl) wr.heap.size (.slice A2 m c2) m (hcells l) (by rfl) (HS2.out.1.alloc _) w2.heap.size (by rfl) [.int .u16 (y : Int)] rfl (by simp [Value.oneCell']) (BlkV.new w2 33 [.int .u16 (y : Int)]) (by omega) (HS2.out.2.alloc HS2.out.2.size _).size ?_; intro v3 w3 ho3 hg3 hn3; obtain ⟨A7, c7, hv3⟩ := own_formN ho3; subst hv3; have HF7 := Lib.hid (And.intro (by rw [hcells_snoc]; exact ho3 : w3.ownsRow wr.heap.size 33 1 (.slice A7 (m + 1) c7) (m + 1) (hcells (l ++ [y]))) ((HS2.out.2.alloc HS2.out.2.size _).grown hg3 (HS2.out.2.alloc HS2.out.2.size _).size (fun p hp => (HS2.out.1.lt p hp).1))); clear ho3 hg3 hn3)
            | (refine step_appV (by rfl) (.tmp 29) (.tmp 39) e16K (by rfl) wr.heap.size (.slice A2 m c2) m (hcells l) (by rfl) HS2.out.1 _ (by rfl) [.int .u16 (y : Int)] rfl (by simp [Value.oneCell']) HY2.out (by omega) HS2.out.2.size ?_; intro v3 w3 ho3 hg3 hn3; obtain ⟨A7, c7, hv3⟩ := own_formN ho3; subst hv3; have HF7 := Lib.hid (And.intro (by rw [hcells_snoc]; exact ho3 : w3.ownsRow wr.heap.size 33 1 (.slice A7 (m + 1) c7) (m + 1) (hcells (l ++ [y]))) (HS2.out.2.grown hg3 HS2.out.2.size (fun p hp => (HS2.out.1.lt p hp).1))); clear ho3 hg3 hn3))
          all_goals (go_wp2_with fail; go_meet; exact ⟨A7, c7, rfl, HF7⟩)
        case rest =>
          obtain ⟨A7, c7, rfl, HM7⟩ := hcut
          have HUY : Hid (∀ x ∈ l ++ [y], x < 65536) := Lib.hid (fun x hx => by
            rcases List.mem_append.1 hx with h | h
            · exact HU x h
            · rw [List.mem_singleton.1 h]; exact hy65)
          obtain ⟨W7, hW7⟩ : ∃ W7, W7 = wc := ⟨_, rfl⟩
          rw [← hW7] at HM7 ⊢
          clear hW7 k0 k2 k3 k4 k5 k6 k7
          obtain ⟨z, hz⟩ : ∃ z, z = (lsL (l ++ [y])).length := ⟨_, rfl⟩
          have HLS : Hid (Calls Try.prog 24 #[.slice A7 (m + 1) c7] W7 fun e w' => ∃ A' c', e = .returned (.slice A' z c') ∧ Below W7.heap.size W7 w') := Lib.hid ((rlosses_any A7 (m + 1) c7 (l ++ [y]) W7 (RdH.of_ownK HM7.out.1 (by omega) HUY.out) (by omega)).mono fun e w' ⟨A', c', h1, _, h3⟩ => ⟨A', c', by rw [hz]; exact h1, h3⟩)
          rw [← hz] at HST HMO
          clear hz
          by_cases hz16 : 16 < z
          · have hz16i : (16 : Int) < (z : Int) := by omega
            have HA1 : Hid (∀ w8, Below W7.heap.size W7 w8 → Asked20 w g F p hh tk D (.slice A m c) m w8) := Lib.hid (fun w8 hb8 => by
              have b8 : Below wr.heap.size wr w8 := HM7.out.2.trans (hb8.mono HM7.out.2.size)
              exact ⟨M, l, _, _, _, HW.below b8, HST.out hz16, HAW.len, own_keep HO b8, HU⟩)
            clear HST HMO HTU HW HAW HO HU HNL HX HXT HXI hhere
            go_upto_region 11 with (go_at_call 24; ((with_reducible refine HLS.out.mono ?_); rintro e w8 ⟨A8, c8, rfl, b8⟩; have HA := Lib.hid (HA1.out w8 b8); clear b8))
            obtain ⟨W, hW⟩ : ∃ W, W = w8 := ⟨_, rfl⟩
            rw [← hW] at HA ⊢
            clear hW HA1 HLS HM7 HUY hz16 hz16i hlt
            obtain ⟨M, l, vI1, vT1, vN1, HW1, HAM, HML, HO1, HU1⟩ := HA.out
            have hN1 : M.length = N := by rw [HML, HN.out]
            have HL0 : Hid (Left20 w g F p hh M l (.slice A m c) m N W) := Lib.hid ⟨_, _, _, by rw [← hN1, leftM_all]; exact HW1, HO1⟩
            have HR1 : Hid (askM p tk D [] = (M, l) ∧ ∀ x ∈ l, x < 65536) := Lib.hid ⟨HAM, HU1⟩
            have HMN := Lib.hid hN1
            have hc2 := HW1.kp.c2
            obtain ⟨AI, cI, hvI⟩ := own_formN HW1.kp.oi
            simp only at hvI
            rw [hN1] at hvI
            rw [hvI] at hc2
            have hml : l.length = m := by have := HO1.1; simpa [hcells_len] using this
            clear HW1 HAM HML HO1 HU1 hN1 hvI HA
            go_wp2
            go_loopw [8] (fun vx wr => ∃ j : Nat, j ≤ N ∧ vx = .int .i64 ((j : Int) - 1) ∧ Hid (Left20 w g F p hh M l (.slice A m c) m j wr)) (fun x _ => (intOf x + 1).toNat)
            case atStart => exact ⟨N, Nat.le_refl _, rfl, HL0⟩
            case round =>
              clear HL0 hc2
              obtain ⟨j, hj, rfl, HJ⟩ := hrel
              by_cases hj0 : 0 < j
              · obtain ⟨i, rfl⟩ : ∃ i, j = i + 1 := ⟨j - 1, by omega⟩
                have hji : ((i + 1 : Nat) : Int) - 1 = (i : Int) := by omega
                rw [hji]
                obtain ⟨vI2, vT2, vN2, HW2, HO2⟩ := HJ.out
                have hiM : i < M.length := by rw [HMN.out]; omega
                obtain ⟨hiL, hiE⟩ := leftM_at hiM
                obtain ⟨bI, bT, bN, cI2, cT, cN, rfl, rfl, rfl, hcc⟩ := HW2.cells i hiL
                obtain ⟨k0, k2, k3, k4, k5, k6, k7⟩ := hcc wr (Below.refl _ _)
                rw [hiE] at k6
                have hil : (i : Int) < ((leftM M (i + 1)).length : Int) := by omega
                have hll : (leftM M (i + 1)).length ≤ 1000 := by
                  have : (leftM M (i + 1)).length ≤ M.length := by
                    unfold leftM
                    rw [List.length_append]
                    have := List.length_filter_le (fun x : Mis => decide (x.t < 3)) (M.drop (i + 1))
                    rw [List.length_drop] at this
                    rw [List.length_take]
                    omega
                  have := HMN.out
                  omega
                by_cases ht : M[i].t < 3
                · have HKJ : Hid (Left20 w g F p hh M l (.slice A m c) m i wr) := Lib.hid ⟨_, _, _, by rw [leftM_keep hiM ht]; exact HW2, HO2⟩
                  have hge : ¬ (3 ≤ M[i].t) := by omega
                  obtain ⟨y, hy⟩ : ∃ y, y = M[i].t := ⟨_, rfl⟩
                  rw [← hy] at k6 hge
                  obtain ⟨LN, hLN⟩ : ∃ LN, LN = (leftM M (i + 1)).length := ⟨_, rfl⟩
                  rw [← hLN] at k3 hil
                  clear k0 k2 k4 k5 k7 hcc HW2 HO2 hiL hiE hiM ht hy hll hLN
                  go_wp2
                  go_roundw
                  case rel => exact ⟨i, by omega, by go_num, HKJ⟩
                  case measure => (simp [intOf]; try omega)
                · have HK := Lib.hid (leftM_drop hiM ht)
                  have hge : 3 ≤ M[i].t := by omega
                  have HD := Lib.hid (rdrop_any20 0 g ⟨p, hh, leftM M (i + 1)⟩ _ _ _ i wr HW2.kp (by exact hll) (by exact hiL))
                  have HNX : Hid (∀ w2, (∃ vI' vT' vN', RKp wr.heap.size g ⟨p, hh, (leftM M (i + 1)).eraseIdx i⟩ vI' vT' vN' w2 ∧ wr.grownBy w2 (some g)) → Left20 w g F p hh M l (.slice A m c) m i w2) := Lib.hid (fun w2 hx => by
                    obtain ⟨vI3, vT3, vN3, r1, r2⟩ := hx
                    refine ⟨vI3, vT3, vN3, ?_, ?_⟩
                    · have := HW2.dropped r1 r2
                      rw [← HK.out] at this
                      exact this
                    · exact own_fr HO2 (Fr.of_grown (F := fun k => k = g) r2 (fun q hq => by injection hq with hq; exact hq.symm)) (fun k hk hf => own_ne HO2 HW2.kp.blk ne16K (by rw [← hf]; exact hk)))
                  obtain ⟨y, hy⟩ : ∃ y, y = M[i].t := ⟨_, rfl⟩
                  rw [← hy] at k6 hge
                  obtain ⟨LN, hLN⟩ : ∃ LN, LN = (leftM M (i + 1)).length := ⟨_, rfl⟩
                  rw [← hLN] at k3 hil
                  clear k0 k2 k4 k5 k7 hcc HW2 HO2 hiL hiE hiM ht hy hll hLN HK HJ
                  go_wp2_with (go_at_call 25; ((with_reducible refine HD.out.mono ?_); rintro e w9 ⟨rfl, hx⟩; have HN9 := Lib.hid (HNX.out w9 hx); clear hx))
                  go_roundw
                  case rel => exact ⟨i, by omega, by go_num, HN9⟩
                  case measure => (simp [intOf]; try omega)
              · obtain rfl : j = 0 := by omega
                obtain ⟨vI2, vT2, vN2, HW2, HO2⟩ := HJ.out
                have HLS := Lib.hid (rlosses_any A m c l wr (RdH.of_ownK HO2 (by omega) HR1.out.2) (by omega))
                have HF : Hid (∀ w2 A2 c2, w2.ownsRow wr.heap.size 35 2 (.slice A2 (lsL l).length c2) (lsL l).length (lcells (lsL l)) → Below wr.heap.size wr w2 → Fin20 w g F s tk A2 c2 w2) := Lib.hid (fun w2 A2 c2 o1 b1 => by
                  have hl2 : (askK s tk).2 = l := by unfold askK; rw [← HPS.out.1, ← HPS.out.2.2, HR1.out.1]
                  refine ⟨by rw [hl2]; exact own_moN o1 HW2.fr.size, vI2, vT2, vN2, ?_⟩
                  have h9 := HW2.below b1
                  rw [leftM_zero] at h9
                  have e9 : (askK s tk).1 = ⟨p, hh, M.filter fun x => decide (x.t < 3)⟩ := by unfold askK; rw [← HPS.out.1, ← HPS.out.2.1, ← HPS.out.2.2, HR1.out.1]
                  rw [e9]
                  exact h9)
                have HZ : Hid (lsL (askK s tk).2 = lsL l) := Lib.hid (by unfold askK; rw [← HPS.out.1, ← HPS.out.2.2, HR1.out.1])
                clear HW2 HO2 HJ
                go_wp2_with (go_at_call 24; ((with_reducible refine HLS.out.mono ?_); rintro e w9 ⟨A9, c9, rfl, o9, b9⟩; have HF9 := Lib.hid (HF.out w9 A9 c9 o9 b9); clear o9 b9))
                go_ret
                exact ⟨A9, c9, by rw [HZ.out]; rfl, HF9⟩
          · have hz16i : (z : Int) ≤ 16 := by omega
            have HB7 : Hid (Below wr.heap.size wr W7) := Lib.hid HM7.out.2
            have HFR : Hid (∀ w8, Below W7.heap.size W7 w8 → ((w8.setCell ⟨bT, k, none⟩ (.int .i64 (xt + 1))).drew.cell? ⟨g, 4, none⟩ = some (.slice (some ⟨bN, 0, none⟩) N cN) ∧ (w8.setCell ⟨bT, k, none⟩ (.int .i64 (xt + 1))).drew.cell? ⟨g, 0, none⟩ = some (.int .i64 p) ∧ (∃ u, (w8.setCell ⟨bT, k, none⟩ (.int .i64 (xt + 1))).drew.cell? ⟨bN, k, none⟩ = some u) ∧ (w8.setCell ⟨bT, k, none⟩ (.int .i64 (xt + 1))).drew.frozen? ⟨bN, k, none⟩ = false) ∧ (w8.frozen? ⟨bT, k, none⟩ = false ∧ w8.frozen? ⟨bN, k, none⟩ = false ∧ bT < w8.heap.size ∧ bN < w8.heap.size) ∧ Ask20 w g F p hh tk D (k + 1) (.slice A7 (m + 1) c7) (m + 1) (((w8.setCell ⟨bT, k, none⟩ (.int .i64 (xt + 1))).setCell ⟨bN, k, none⟩ (.int .i64 (tk + p))).drew)) := Lib.hid (fun w8 hb8 => by
              have b8 : Below wr.heap.size wr w8 := HM7.out.2.trans (hb8.mono HM7.out.2.size)
              have K8 := HW.below b8
              have o8 := own_keep HM7.out.1 hb8
              have hT := own_apart K8.kp.ot o8 (fun e => ne16i e.symm)
              have hN := own_apart K8.kp.on o8 (fun e => ne16x e.symm)
              have n64 : (2 : TypeId) ≠ 41 := by decide
              have nin : (3 : TypeId) ≠ 41 := by decide
              have hgT : g ≠ bT := fun e => own_ne K8.kp.ot K8.kp.blk nin (by rw [e]; rfl)
              have hTN : (Value.slice (some ⟨bN, 0, none⟩) M.length cN).ownBlock ≠ some bT := fun e => own_apart K8.kp.on K8.kp.ot ne_64i bT e rfl
              have B1 := K8.kp.blk.far (p := ⟨bT, k, none⟩) hgT (.int .i64 (xt + 1))
              have O1 := own_stepB K8.kp.on hTN k (.int .i64 (xt + 1))
              obtain ⟨bN2, cN2, e3, _, _, hc7⟩ := own_ints O1 (by show 0 < M.length; omega)
              cases e3
              have hc7' := hc7 k hkM
              refine ⟨⟨(B1.cell 4).trans (by rw [hMN]; rfl), (B1.cell 0).trans rfl, by simpa [List.getD, hkM] using ⟨_, hc7'⟩, own_froz O1 (by show 0 < M.length; omega) k⟩, ?_⟩
              have hA : Ask20 w g F p hh tk D (k + 1) (.slice A7 (m + 1) c7) (m + 1) ((w8.setCell ⟨bT, k, none⟩ (.int .i64 (xt + 1))).setCell ⟨bN, k, none⟩ (.int .i64 (tk + p))) := by
                refine ⟨_, _, .slice (some ⟨bI, 0, none⟩) M.length cI, .slice (some ⟨bT, 0, none⟩) M.length cT, .slice (some ⟨bN, 0, none⟩) M.length cN, ?_, HMO.out hz16, ?_, HUY.out, fun e => by omega⟩
                · have h9 := Way20.turned K8 k hkM (xt + 1) (tk + p)
                  rw [HXT.out] at h9 ⊢
                  exact h9
                · exact own_stepB (own_stepB (own_moN o8 (by have := HW.fr.size; omega)) (fun e => hT bT rfl e) _ _) (fun e => hN bN rfl e) _ _
              exact ⟨⟨own_froz K8.kp.ot (by show 0 < M.length; omega) k, own_froz K8.kp.on (by show 0 < M.length; omega) k, (K8.kp.ot.lt bT rfl).2, (K8.kp.on.lt bN rfl).2⟩, hA.drew⟩)
            clear HST HMO HTU HW HAW HO HU HNL HX HXT HXI hhere HM7 HUY
            go_wp2_with (go_at_call 24; ((with_reducible refine HLS.out.mono ?_); rintro e w8 ⟨A8, c8, rfl, b8⟩; obtain ⟨⟨j4, j0, ⟨u7, j7⟩, j8⟩, ⟨j9, j10, j11, j12⟩, hask⟩ := HFR.out w8 b8; have HASK := Lib.hid hask; obtain ⟨q0, q2, q3, q4, q5, q6, q7⟩ := HCC.out w8 (HB7.out.trans (b8.mono HB7.out.size)); clear b8 hask))
            go_region
            go_wp2
            go_roundw
            case rel => exact ⟨k + 1, m + 1, A7, c7, by omega, by omega, rfl, by go_num, HASK⟩
            case measure => (simp [intOf]; try omega)
    · obtain rfl : N = k := by omega
      have HA := Lib.hid (HCL.out _ _ _ _ HX.out)
      clear HX hc2 hlt
      obtain ⟨W, hW⟩ : ∃ W, W = wr := ⟨_, rfl⟩
      rw [← hW] at HA ⊢
      clear hW
      obtain ⟨M, l, vI1, vT1, vN1, HW1, HAM, HML, HO1, HU1⟩ := HA.out
      have hN1 : M.length = N := by rw [HML, HN.out]
      have HL0 : Hid (Left20 w g F p hh M l (.slice A m c) m N W) := Lib.hid ⟨_, _, _, by rw [← hN1, leftM_all]; exact HW1, HO1⟩
      have HR1 : Hid (askM p tk D [] = (M, l) ∧ ∀ x ∈ l, x < 65536) := Lib.hid ⟨HAM, HU1⟩
      have HMN := Lib.hid hN1
      have hc2 := HW1.kp.c2
      obtain ⟨AI, cI, hvI⟩ := own_formN HW1.kp.oi
      simp only at hvI
      rw [hN1] at hvI
      rw [hvI] at hc2
      have hml : l.length = m := by have := HO1.1; simpa [hcells_len] using this
      clear HW1 HAM HML HO1 HU1 hN1 hvI HA
      go_wp2
      go_loopw [8] (fun vx wr => ∃ j : Nat, j ≤ N ∧ vx = .int .i64 ((j : Int) - 1) ∧ Hid (Left20 w g F p hh M l (.slice A m c) m j wr)) (fun x _ => (intOf x + 1).toNat)
      case atStart => exact ⟨N, Nat.le_refl _, rfl, HL0⟩
      case round =>
        clear HL0 hc2
        obtain ⟨j, hj, rfl, HJ⟩ := hrel
        by_cases hj0 : 0 < j
        · obtain ⟨i, rfl⟩ : ∃ i, j = i + 1 := ⟨j - 1, by omega⟩
          have hji : ((i + 1 : Nat) : Int) - 1 = (i : Int) := by omega
          rw [hji]
          obtain ⟨vI2, vT2, vN2, HW2, HO2⟩ := HJ.out
          have hiM : i < M.length := by rw [HMN.out]; omega
          obtain ⟨hiL, hiE⟩ := leftM_at hiM
          obtain ⟨bI, bT, bN, cI2, cT, cN, rfl, rfl, rfl, hcc⟩ := HW2.cells i hiL
          obtain ⟨k0, k2, k3, k4, k5, k6, k7⟩ := hcc wr (Below.refl _ _)
          rw [hiE] at k6
          have hil : (i : Int) < ((leftM M (i + 1)).length : Int) := by omega
          have hll : (leftM M (i + 1)).length ≤ 1000 := by
            have : (leftM M (i + 1)).length ≤ M.length := by
              unfold leftM
              rw [List.length_append]
              have := List.length_filter_le (fun x : Mis => decide (x.t < 3)) (M.drop (i + 1))
              rw [List.length_drop] at this
              rw [List.length_take]
              omega
            have := HMN.out
            omega
          by_cases ht : M[i].t < 3
          · have HKJ : Hid (Left20 w g F p hh M l (.slice A m c) m i wr) := Lib.hid ⟨_, _, _, by rw [leftM_keep hiM ht]; exact HW2, HO2⟩
            have hge : ¬ (3 ≤ M[i].t) := by omega
            obtain ⟨y, hy⟩ : ∃ y, y = M[i].t := ⟨_, rfl⟩
            rw [← hy] at k6 hge
            obtain ⟨LN, hLN⟩ : ∃ LN, LN = (leftM M (i + 1)).length := ⟨_, rfl⟩
            rw [← hLN] at k3 hil
            clear k0 k2 k4 k5 k7 hcc HW2 HO2 hiL hiE hiM ht hy hll hLN
            go_wp2
            go_roundw
            case rel => exact ⟨i, by omega, by go_num, HKJ⟩
            case measure => (simp [intOf]; try omega)
          · have HK := Lib.hid (leftM_drop hiM ht)
            have hge : 3 ≤ M[i].t := by omega
            have HD := Lib.hid (rdrop_any20 0 g ⟨p, hh, leftM M (i + 1)⟩ _ _ _ i wr HW2.kp (by exact hll) (by exact hiL))
            have HNX : Hid (∀ w2, (∃ vI' vT' vN', RKp wr.heap.size g ⟨p, hh, (leftM M (i + 1)).eraseIdx i⟩ vI' vT' vN' w2 ∧ wr.grownBy w2 (some g)) → Left20 w g F p hh M l (.slice A m c) m i w2) := Lib.hid (fun w2 hx => by
              obtain ⟨vI3, vT3, vN3, r1, r2⟩ := hx
              refine ⟨vI3, vT3, vN3, ?_, ?_⟩
              · have := HW2.dropped r1 r2
                rw [← HK.out] at this
                exact this
              · exact own_fr HO2 (Fr.of_grown (F := fun k => k = g) r2 (fun q hq => by injection hq with hq; exact hq.symm)) (fun k hk hf => own_ne HO2 HW2.kp.blk ne16K (by rw [← hf]; exact hk)))
            obtain ⟨y, hy⟩ : ∃ y, y = M[i].t := ⟨_, rfl⟩
            rw [← hy] at k6 hge
            obtain ⟨LN, hLN⟩ : ∃ LN, LN = (leftM M (i + 1)).length := ⟨_, rfl⟩
            rw [← hLN] at k3 hil
            clear k0 k2 k4 k5 k7 hcc HW2 HO2 hiL hiE hiM ht hy hll hLN HK HJ
            go_wp2_with (go_at_call 25; ((with_reducible refine HD.out.mono ?_); rintro e w9 ⟨rfl, hx⟩; have HN9 := Lib.hid (HNX.out w9 hx); clear hx))
            go_roundw
            case rel => exact ⟨i, by omega, by go_num, HN9⟩
            case measure => (simp [intOf]; try omega)
        · obtain rfl : j = 0 := by omega
          obtain ⟨vI2, vT2, vN2, HW2, HO2⟩ := HJ.out
          have HLS := Lib.hid (rlosses_any A m c l wr (RdH.of_ownK HO2 (by omega) HR1.out.2) (by omega))
          have HF : Hid (∀ w2 A2 c2, w2.ownsRow wr.heap.size 35 2 (.slice A2 (lsL l).length c2) (lsL l).length (lcells (lsL l)) → Below wr.heap.size wr w2 → Fin20 w g F s tk A2 c2 w2) := Lib.hid (fun w2 A2 c2 o1 b1 => by
            have hl2 : (askK s tk).2 = l := by unfold askK; rw [← HPS.out.1, ← HPS.out.2.2, HR1.out.1]
            refine ⟨by rw [hl2]; exact own_moN o1 HW2.fr.size, vI2, vT2, vN2, ?_⟩
            have h9 := HW2.below b1
            rw [leftM_zero] at h9
            have e9 : (askK s tk).1 = ⟨p, hh, M.filter fun x => decide (x.t < 3)⟩ := by unfold askK; rw [← HPS.out.1, ← HPS.out.2.1, ← HPS.out.2.2, HR1.out.1]
            rw [e9]
            exact h9)
          have HZ : Hid (lsL (askK s tk).2 = lsL l) := Lib.hid (by unfold askK; rw [← HPS.out.1, ← HPS.out.2.2, HR1.out.1])
          clear HW2 HO2 HJ
          go_wp2_with (go_at_call 24; ((with_reducible refine HLS.out.mono ?_); rintro e w9 ⟨A9, c9, rfl, o9, b9⟩; have HF9 := Lib.hid (HF.out w9 A9 c9 o9 b9); clear o9 b9))
          go_ret
          exact ⟨A9, c9, by rw [HZ.out]; rfl, HF9⟩
end Go.Proofs.Ytkmacpmdgbhhkaa
