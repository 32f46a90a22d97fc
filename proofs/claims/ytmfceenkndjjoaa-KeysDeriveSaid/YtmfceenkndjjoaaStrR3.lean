/- Contracts of the document's answer of layer 6: bytes ciphered. No statement is proved here. -/
import Derived.Test.YtmfceenkndjjoaaStrR2
import Derived.Deep.DeepCutAuto
namespace Go.Proofs.Ytmfceenkndjjoaa
open Go.RowKit
set_option linter.unusedVariables false

theorem own_lower {w : World} {base base' : Nat} {e : TypeId} {v : Value} {n : Nat} {xs : List Value} (h : w.ownsRow base e 1 v n xs) (hb : base' ≤ base) : w.ownsRow base' e 1 v n xs :=
  ⟨h.1, h.2.imp id fun ⟨g, cap, cur, h1, h2, h3⟩ => ⟨g, cap, cur, h1, Nat.le_trans hb h2, h3⟩⟩
/-- What is there all along in Cipher's loop: what lay below block G (the block that is ciphered just now) ahead of the loop, that block, the bytes so far. -/
structure REnv (w1 : World) (G : Nat) (N : List UInt8) (v : Value) (i : Nat) (out : List UInt8) (wr : World) : Prop where
  b : Below G w1 wr
  n : Blk wr G 22 N
  o : wr.ownsRow (G + 1) 5 1 v i (cells out)
theorem REnv.below {w1 : World} {G : Nat} {N : List UInt8} {v : Value} {i : Nat} {out : List UInt8} {wr w' : World} (h : REnv w1 G N v i out wr) (hb : Below wr.heap.size wr w') : REnv w1 G N v i out w' :=
  ⟨h.b.trans (hb.mono (Nat.le_of_lt h.n.lt)), h.n.below hb h.n.lt, own_below h.o hb⟩
theorem REnv.put {w1 : World} {G : Nat} {N X : List UInt8} {v : Value} {i : Nat} {out : List UInt8} {wr w' : World} (h : REnv w1 G N v i out wr) (ho : Only G wr w') (hX : Blk w' G 22 X) : REnv w1 G X v i out w' :=
  ⟨h.b.trans (ho.below (Nat.le_refl _)), hX, h.o.kept (row := some G) ho.grown (by
    rcases hv : v.ownBlock with _ | q
    · exact .inl rfl
    · refine .inr fun e => ?_
      have := (h.o.lt q hv).1
      injection e with e
      omega)⟩

set_option maxRecDepth 100000 in
set_option maxHeartbeats 4000000 in
theorem rcipher_any (key c : List UInt8) (A : Option Addr) (n cap : Nat) (bs : List UInt8) (w : World) (hk : key.length = 16) (hc : c.length = 16) (hr : RdS w A n cap bs) (hn : n ≤ 4096) :
    Calls Try.prog 12 #[.agg (cells key).toArray, .agg (cells c).toArray, .slice A n cap] w fun e w' => ∃ v, e = .returned v ∧ w'.ownsRow w.heap.size 5 1 v n (cells (cph key c bs)) ∧ Below w.heap.size w w' := by
  have hz := zero16
  obtain ⟨hb0, h0, h1⟩ := boxes2 w key c
  have hl := hr.len
  have HKL : Hid ((cells key).length = 16) := Lib.hid (by rw [length_cells, hk])
  have HCL : Hid ((cells c).length = 16) := Lib.hid (by rw [length_cells, hc])
  have hZL : (cells Z16).length = 16 := by rw [length_cells, Z16_len]
  have HZL := Lib.hid hZL
  have hrn := fun wx => rnewS_any key wx hk
  have HRN := Lib.hid hrn
  have HC := Lib.hid hc
  have HL := Lib.hid hl
  clear hk hc hZL hrn hl
  go_enter Try.func12, Try.ntmps12
  go_wp2_with (first
    | (with_reducible refine wpList_ld rfl 22 (.tmp 3) rfl w.heap.size 0 rfl (cells key) (h0.v.range 0 _ (by simp)) (row16 HKL.out) ?_)
    | (go_at_call 15; ((with_reducible refine (HRN.out _).mono ?_); rintro e w1 ⟨p, gB, gW, cW, rfl, hC1, hb1⟩)))
  have k1 := h1.below hb1 h1.lt
  have kl := h1.lt
  have hr1 := (hr.below hb0).below hb1
  have hb1w := hb0.trans (hb1.mono hb0.size)
  clear h0 h1 hb0 hb1 HRN
  obtain ⟨G, hG⟩ : ∃ G, G = w1.heap.size := ⟨_, rfl⟩
  have hE0 : REnv w1 G Z16 (.slice none 0 0) 0 ((cph key c bs).take 0) (w1.alloc (.cells (cells Z16).toArray 22)) := by
    rw [hG]
    exact ⟨(Below.refl _ _).alloc (Nat.le_refl _) _, Blk.new _ _ _, World.ownsRow_nil _ _ _ _⟩
  have HG := Lib.hid hG
  have hwG : w.heap.size + 1 < G := by rw [hG]; exact k1.lt
  rw [← hG]
  clear hG
  have HN0 : Hid (Z16.length = 16 ∧ (0 % 16 ≠ 0 → Z16 = enc (kall key) (plusC c (0 / 16)))) := Lib.hid ⟨Z16_len, fun h => absurd rfl h⟩
  go_loopw [8, 10] (fun vo vi wr => ∃ (i : Nat) (A' : Option Addr) (c' : Nat) (N : List UInt8), i ≤ n ∧ vi = .int .i64 i ∧ vo = .slice A' i c' ∧ Hid (N.length = 16 ∧ (i % 16 ≠ 0 → N = enc (kall key) (plusC c (i / 16)))) ∧ REnv w1 G N (.slice A' i c') i ((cph key c bs).take i) wr) (fun _ i _ => n - (intOf i).toNat)
  case atStart => exact ⟨0, none, 0, Z16, by omega, rfl, rfl, HN0, hE0⟩
  case round =>
    clear hE0 HN0
    obtain ⟨i, A', c', N, hi, rfl, rfl, HN, hE⟩ := hrel
    by_cases hlt : i < n
    · have hCw := hC1.below (HG.out ▸ hE.b)
      have kw := k1.below hE.b (by omega)
      have hb := hb1w.trans (hE.b.mono (by omega))
      obtain ⟨L, hL⟩ : ∃ L, L = i % 16 := ⟨_, rfl⟩
      obtain ⟨J, hJ⟩ : ∃ J, J = i / 16 := ⟨_, rfl⟩
      rw [← hL, ← hJ] at HN
      have e1 : (i : Int).tmod 16 = (L : Int) := by rw [Int.tmod_eq_emod_of_nonneg (by omega)]; omega
      have e2 : IntKind.i64.wrap (L : Int) = (L : Int) := IntWalk.i64_in _ (by omega)
      have e3 : (i : Int).tdiv 16 = (J : Int) := by rw [Int.tdiv_eq_ediv_of_nonneg (by omega)]; omega
      have e4 : IntKind.i64.wrap (J : Int) = (J : Int) := IntWalk.i64_in _ (by omega)
      have hli : (i : Int) < (n : Int) := by omega
      have hpl := fun wx => rplus_any c J wx HC.out (by omega)
      have hbk := fun wx (hx : RCiph wx p gB gW cW key) => rblock_any p gB gW cW key (plusC c J) wx (plusC_len _ _) hx
      obtain ⟨X, hX⟩ : ∃ X, X = enc (kall key) (plusC c J) := ⟨_, rfl⟩
      have hXl : X.length = 16 := by rw [hX]; exact enc_len _ _
      rw [← hX] at HN
      simp only [← hX] at hbk
      have hNL : (cells N).length = 16 := by rw [length_cells, HN.out.1]
      have hXL : (cells X).length = 16 := by rw [length_cells, hXl]
      have HNL := Lib.hid hNL
      have HXL := Lib.hid hXL
      have HXl := Lib.hid hXl
      have HX := Lib.hid hX
      have HPL := Lib.hid hpl
      have HBK := Lib.hid hbk
      have HLe := Lib.hid hL
      have HJe := Lib.hid hJ
      clear hpl hbk hX hXl hNL hXL hL hJ
      go_upto_if 21 with (fail)
      go_cut [] (fun wx => REnv w1 G X (.slice A' i c') i ((cph key c bs).take i) wx)
      case first =>
        by_cases h0 : L = 0
        · subst h0
          go_wp2_with (first
            | (with_reducible refine wpList_ld rfl 22 (.tmp 4) rfl (w.heap.size + 1) 0 rfl (cells c) (kw.v.range 0 _ (by simp)) (row16 HCL.out) ?_)
            | (go_at_call 17; ((with_reducible refine (HPL.out _).mono ?_); rintro e w3 ⟨rfl, hb3⟩; have hC3 := hCw.below hb3; have hE3 := hE.below hb3))
            | (go_at_call 16; ((with_reducible refine (HBK.out w3 hC3).mono ?_); rintro e w4 ⟨rfl, hb4⟩; have hE4 := hE3.below hb4; have hN4 := hE4.n))
            | ((with_reducible refine wpList_st rfl 22 (.tmp 9) (.tmp 27) rfl G 0 (cells X) rfl rfl 22 _ hN4.v (by rw [HXL.out, HNL.out]; omega) (row16 HXL.out) (cells_one _) ?_); intro w5 hB5 ho5; rw [splice_all _ _ (by rw [HXL.out, HNL.out])] at hB5))
          go_meet
          exact hE4.put ho5 hB5
        · have hNX := HN.out.2 h0
          rw [hNX] at hE
          have hLi : ((L : Int) = 0) = False := by simp; omega
          go_wp2
          go_meet
          exact hE
      case rest =>
        have hE := hcut
        clear hcut
        have hrw := hr1.below (HG.out ▸ hE.b)
        have hcb : ∃ ad, A = some ad ∧ ad.block < G ∧ wc.cell? (ad.add i) = some (.int .u8 ((bs.getD i 0).toNat : Int)) := by
          obtain ⟨b, off, hA, hbl, hcc⟩ := hr1.2.2.2.2 (by omega)
          obtain ⟨b2, off2, hA2, hbl2, hcc2⟩ := hrw.2.2.2.2 (by omega)
          rw [hA] at hA2
          injection hA2 with hA2
          injection hA2 with q1 q2
          subst q1; subst q2
          exact ⟨_, hA, by rw [HG.out]; exact hbl, by rw [add_lit]; exact hcc2 i hlt⟩
        obtain ⟨ad, rfl, hadG, hcb⟩ := hcb
        have hL16 : L < 16 := by have := HLe.out; omega
        have hLi : (L : Int) < 16 := by omega
        have hcn := hE.n.cell (j := L) (by rw [HXl.out]; exact hL16)
        have hV : bits BinOp.xor IntKind.u8 ((bs.getD i 0).toNat : Int) ((X.getD L 0).toNat : Int) = ((cphB key c bs i).toNat : Int) := by
          rw [xr8, cphB, ksB, ← HJe.out, ← HLe.out, ← HX.out]
        have hstep := cph_step key c bs i (by rw [HL.out]; exact hlt)
        obtain ⟨V, hVe⟩ : ∃ V, V = cphB key c bs i := ⟨_, rfl⟩
        obtain ⟨x, hx⟩ : ∃ x : Int, x = ((bs.getD i 0).toNat : Int) := ⟨_, rfl⟩
        obtain ⟨y, hy⟩ : ∃ y : Int, y = ((X.getD L 0).toNat : Int) := ⟨_, rfl⟩
        rw [← hVe] at hV hstep
        obtain ⟨v, hv⟩ : ∃ v : Int, v = (V.toNat : Int) := ⟨_, rfl⟩
        rw [← hx, ← hy, ← hv] at hV
        rw [← hx] at hcb
        rw [← hy] at hcn
        have HV := Lib.hid hv
        have HST := Lib.hid hstep
        have hab : (ad.add i).block < G := by rw [show (ad.add i).block = ad.block by unfold Addr.add; split <;> rfl]; exact hadG
        clear hadG
        clear hVe hx hy hv hstep hrw kw hb hCw
        go_wp2
        refine wp_region_noPanic ?_
        refine wp_region_held (S := fun wx => wx.cell? (ad.add i) = some (.int .u8 x) ∧ wx.cell? ⟨G, L, none⟩ = some (.int .u8 y)) (by kernel_rfl) ?_
        change wpAnyH _ _ _ _ _ _ _ _ (World.drew _)
        have hED := hE.below ((Below.refl _ _).drew)
        have hS : (wc.drew).cell? (ad.add i) = some (.int .u8 x) ∧ (wc.drew).cell? ⟨G, L, none⟩ = some (.int .u8 y) := ⟨hcb, hcn⟩
        clear hE hcb hcn
        generalize wc.drew = wq at *
        have hGq := hED.n.lt
        refine wpAnyH_take (i := 0) (v := ?_) rfl (by kernel_rfl) (by kernel_rfl) (by kernel_rfl) (fun _ _ _ h => h) (Or.inl ⟨by rfl, ?_⟩) hS ?_
        case refine_2 => (intro wz hz; go_simp; with_reducible rfl)
        simp only [Act.put, List.getElem_toArray, List.getElem_cons_zero, List.setIfInBounds_toArray, List.set_cons_succ, List.set_cons_zero]
        refine wpAnyH_take (i := 1) (v := ?_) rfl (by kernel_rfl) (by kernel_rfl) (by kernel_rfl) (fun _ _ _ h => h) (Or.inl ⟨by rfl, ?_⟩) hS ?_
        case refine_2 => (intro wz hz; go_simp; with_reducible rfl)
        simp only [Act.put, List.getElem_toArray, List.getElem_cons_succ, List.getElem_cons_zero, List.setIfInBounds_toArray, List.set_cons_succ, List.set_cons_zero]
        refine wpAnyH_take (i := 2) (v := ?_) rfl (by kernel_rfl) (by kernel_rfl) (by kernel_rfl) (fun _ _ _ h => h) (Or.inl ⟨by rfl, ?_⟩) hS ?_
        case refine_2 => (intro wz hz; go_simp; with_reducible rfl)
        simp only [Act.put, List.getElem_toArray, List.getElem_cons_succ, List.getElem_cons_zero, List.setIfInBounds_toArray, List.set_cons_succ, List.set_cons_zero]
        refine wpAnyH_take (i := 3) (v := ?_) rfl (by kernel_rfl) (by kernel_rfl) (by kernel_rfl) (fun _ _ _ h => h) (Or.inl ⟨by rfl, ?_⟩) hS ?_
        case refine_2 => (intro wz hz; go_simp; with_reducible rfl)
        simp only [Act.put, List.getElem_toArray, List.getElem_cons_succ, List.getElem_cons_zero, List.setIfInBounds_toArray, List.set_cons_succ, List.set_cons_zero]
        refine wpAnyH_take (i := 4) (v := ?_) rfl (by kernel_rfl) (by kernel_rfl) (by kernel_rfl) (fun _ _ _ h => h) (Or.inl ⟨by rfl, ?_⟩) hS ?_
        case refine_2 => (intro wz hz; obtain ⟨z1, z2⟩ := hz; go_simp; with_reducible rfl)
        simp only [Act.put, List.getElem_toArray, List.getElem_cons_succ, List.getElem_cons_zero, List.setIfInBounds_toArray, List.set_cons_succ, List.set_cons_zero]
        refine wpAnyH_take (i := 5) (v := ?_) rfl (by kernel_rfl) (by kernel_rfl) (by kernel_rfl) (fun _ _ _ h => h) (Or.inl ⟨by rfl, ?_⟩) hS ?_
        case refine_2 => (intro wz hz; go_simp; with_reducible rfl)
        simp only [Act.put, List.getElem_toArray, List.getElem_cons_succ, List.getElem_cons_zero, List.setIfInBounds_toArray, List.set_cons_succ, List.set_cons_zero]
        refine wpAnyH_take (i := 6) (v := ?_) rfl (by kernel_rfl) (by kernel_rfl) (by kernel_rfl) (fun _ _ _ h => h) (Or.inl ⟨by rfl, ?_⟩) hS ?_
        case refine_2 => (intro wz hz; go_simp; with_reducible rfl)
        simp only [Act.put, List.getElem_toArray, List.getElem_cons_succ, List.getElem_cons_zero, List.setIfInBounds_toArray, List.set_cons_succ, List.set_cons_zero]
        refine wpAnyH_take (i := 7) (v := ?_) rfl (by kernel_rfl) (by kernel_rfl) (by kernel_rfl) (fun _ _ _ h => h) (Or.inl ⟨by rfl, ?_⟩) hS ?_
        case refine_2 => (intro wz hz; go_simp; with_reducible rfl)
        simp only [Act.put, List.getElem_toArray, List.getElem_cons_succ, List.getElem_cons_zero, List.setIfInBounds_toArray, List.set_cons_succ, List.set_cons_zero]
        refine wpAnyH_take (i := 8) (v := ?_) rfl (by kernel_rfl) (by kernel_rfl) (by kernel_rfl) (fun _ _ _ h => h) (Or.inl ⟨by rfl, ?_⟩) hS ?_
        case refine_2 => (intro wz hz; obtain ⟨z1, z2⟩ := hz; go_simp; with_reducible rfl)
        simp only [Act.put, List.getElem_toArray, List.getElem_cons_succ, List.getElem_cons_zero, List.setIfInBounds_toArray, List.set_cons_succ, List.set_cons_zero]
        refine wpAnyH_take (i := 9) (v := ?_) rfl (by kernel_rfl) (by kernel_rfl) (by kernel_rfl) (fun _ _ _ h => h) (Or.inl ⟨by rfl, ?_⟩) hS ?_
        case refine_2 => (intro wz hz; go_simp; with_reducible rfl)
        simp only [Act.put, List.getElem_toArray, List.getElem_cons_succ, List.getElem_cons_zero, List.setIfInBounds_toArray, List.set_cons_succ, List.set_cons_zero]
        refine anyH_one (i := 10) (by kernel_rfl) rfl rfl (fun H hH => ?_)
        simp only [List.getElem_toArray, List.getElem_cons_succ, List.getElem_cons_zero]
        go_simp
        have hEa := hED.below ((Below.refl _ _).alloc (Nat.le_refl _) (.cells #[.int .u8 v] 5))
        have hSa : (wq.alloc (.cells #[.int .u8 v] 5)).cell? (ad.add i) = some (.int .u8 x) ∧ (wq.alloc (.cells #[.int .u8 v] 5)).cell? ⟨G, L, none⟩ = some (.int .u8 y) := by
          have hbq := (Below.refl wq.heap.size wq).alloc (Nat.le_refl _) (.cells #[.int .u8 v] 5)
          exact ⟨(hbq.cell (p := ad.add i) (by omega)).trans hS.1, (hbq.cell (p := ⟨G, L, none⟩) hGq).trans hS.2⟩
        refine hH _ _ hSa ?_
        clear hH H
        refine anyH_one (i := 11) (by kernel_rfl) rfl rfl (fun H hH => ?_)
        simp only [List.getElem_toArray, List.getElem_cons_succ, List.getElem_cons_zero]
        refine wp_append_rd _ (.tmp 28) (.tmp 38) rfl Try.underlying27 u8_inf (G + 1) (.slice A' i c') i ((cph key c bs).take i) (by rfl) hEa.o (some ⟨wq.heap.size, 0, none⟩) 1 1 [V] (by rfl) (rd_one8 wq V v HV.out _) (by omega) (by have := hEa.n.lt; omega) ?_
        intro v2 w2 hown2 hg2 hat2
        have hltb := hEa.o.lt
        have hne : ∀ q, Value.ownBlock (.slice A' i c') = some q → G + 1 ≤ q := fun q hq => (hltb q hq).1
        have hb2 : Below G w1 w2 := hEa.b.grown hg2 (Nat.le_of_lt hEa.n.lt) (fun q hq => by have := hne q hq; omega)
        have hn2 := hEa.n.grown hg2 (fun e => by have := hne G e.symm; omega)
        have hGa := hEa.n.lt
        have hS2 : w2.cell? (ad.add i) = some (.int .u8 x) ∧ w2.cell? ⟨G, L, none⟩ = some (.int .u8 y) :=
          ⟨(hg2.cell_far (ad.add i) (by omega) (fun e => by have := hne _ e.symm; omega)).trans hSa.1, (hg2.cell_far ⟨G, L, none⟩ hGa (fun e => by have := hne _ e.symm; simp only at this; omega)).trans hSa.2⟩
        obtain ⟨A3, c3, rfl⟩ := own_form hown2
        refine hH _ _ hS2 ?_
        clear hH H
        rw [← HST.out] at hown2
        refine wpAnyH_take (i := 12) (v := ?_) rfl (by kernel_rfl) (by kernel_rfl) (by kernel_rfl) (fun _ _ _ h => h) (Or.inl ⟨by rfl, ?_⟩) hS2 ?_
        case refine_2 => (intro wz hz; go_simp; with_reducible rfl)
        simp only [Act.put, List.getElem_toArray, List.getElem_cons_succ, List.getElem_cons_zero, List.setIfInBounds_toArray, List.set_cons_succ, List.set_cons_zero]
        refine wpAnyH_done (by kernel_rfl) ?_ _
        refine NoPanic.normal ?_
        clear hS2 hSa hEa hED hS hg2 hat2 hltb hne
        go_wp2
        go_roundw
        case rel => exact ⟨i + 1, A3, c3, X, by omega, by go_num, by go_num, Lib.hid ⟨HXl.out, fun hne => by rw [HX.out, HJe.out]; congr 2; omega⟩, ⟨hb2, hn2, hown2⟩⟩
        case measure => simp [intOf]; omega
    · obtain rfl : i = n := by omega
      have ho := hE.o
      have hb := hb1w.trans (hE.b.mono (by omega))
      rw [List.take_of_length_le (by rw [cph_len, HL.out]; omega)] at ho
      go_wp2
      go_ret
      exact ⟨_, rfl, own_lower ho (by omega), hb⟩
end Go.Proofs.Ytmfceenkndjjoaa
