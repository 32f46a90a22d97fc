/- Several texts in one: plain words and walks. No statement is proved here. -/
import Derived.Test.YtheefckohnaceaaGreatDoorZM9
import Derived.Test.YtheefckohnaceaaGreatDoorZM3
import Derived.Test.YtheefckohnaceaaGreatDoorZAesR4
import Derived.Test.YtheefckohnaceaaGreatDoorZAesR3
import Derived.Deep.DeepCutAuto
import Derived.Test.YtheefckohnaceaaGreatDoorZBytes
import Derived.Test.YtheefckohnaceaaGreatDoorZReg
import Derived.Test.YtheefckohnaceaaGreatDoorZM7
import Derived.Test.YtheefckohnaceaaGreatDoorZM0
import Derived.Test.YtheefckohnaceaaGreatDoorProg
import Derived.Test.YtheefckohnaceaaGreatDoorZM2
import Derived.KernelRfl
import Derived.Lib.Hide
import Derived.IntWalk
import Derived.Laws.Bits128
import Derived.BigQuiet
namespace Go.Proofs.YtheefckohnaceaaGreatDoor
open List renaming getElem_toArray → xgT, getElem_cons_succ → xgS, getElem_cons_zero → xgZ, setIfInBounds_toArray → xsT, set_cons_succ → xsS, set_cons_zero → xsZ
open Go.RowKit
set_option linter.unusedVariables false

theorem NW.ciphS {w0 : World} {key : List UInt8} {p gB : Nat} {vW : Value} {vs : List Value} {w : World} (h : NW w0 key p gB 44 vW vs w) : ∃ gW cW, RCiph w p gB gW cW key := by
 obtain ⟨gW, cW, hv, _, hgl⟩ := h.own.form (by omega)
 subst hv
 refine ⟨gW, cW, (h.hp.cell 0).trans rfl, (h.hp.cell 1).trans rfl, h.hp.lt, h.hB.lt, hgl, fun i hi => h.hB.cell (by rw [boxT_len]; exact hi), fun j hj => ?_⟩
 obtain ⟨b, o, c, h1, _, h3, _, h5⟩ := h.rows j hj
 exact ⟨b, o, c, (h.own.cellAt j (by omega)).trans h1, h3, h5⟩
theorem rnewS_any (key : List UInt8) (w : World) (hk : key.length = 16) :
 Calls Tryz.prog 86 #[.agg (cells key).toArray] w fun e w' => ∃ p gB gW cW, e = .returned (.pointer (some ⟨p, 0, none⟩)) ∧ RCiph w' p gB gW cW key ∧ Below w.heap.size w w' :=
 (rnew_any key w hk).mono fun _ _ ⟨p, gB, _, _, he, h⟩ => by
   obtain ⟨gW, cW, hc⟩ := h.ciphS
   exact ⟨p, gB, gW, cW, he, hc, h.b⟩

set_option maxRecDepth 100000 in
set_option maxHeartbeats 1000000 in
theorem rplus_any (c : List UInt8) (n : Nat) (w : World) (hc : c.length = 16) (hn : n ≤ 1152921504606846976) :
 Calls Tryz.prog 88 #[.agg (cells c).toArray, .int .i64 (n : Int)] w fun e w' => e = .returned (.agg (cells (plusC c n)).toArray) ∧ Below w.heap.size w w' := by
 have hz := zero16
 obtain ⟨hb0, h0, h1, _⟩ := block_base w c
 have hZL : (cells Z16).length = 16 := by rw [length_cells, Z16_len]
 have HZL := Lib.hid hZL
 have hPL : (cells (plusC c n)).length = 16 := by rw [length_cells, plusC_len]
 have HPL := Lib.hid hPL
 have h0' : Blk ((w.alloc (Obj.cells (cells c).toArray 22)).alloc (Obj.cells (cells Z16).toArray 22)) w.heap.size 22 (plR c n 0) := by rw [plR_zero c n hc]; exact h0
 have hN := (plN_zero c n hc).symm
 have HN := Lib.hid hN
 have HC := Lib.hid hc
 clear h0 hc hZL hPL hN
 go_enter Tryz.func88, Tryz.ntmps88
 go_wp2
 go_loopw [1, 5] (fun vn vi wr => ∃ k J m : Nat, Hid (J + k = 16) ∧ vi = .int .i64 ((J : Int) - 1) ∧ vn = .int .i64 (m : Int) ∧ m ≤ n + 1 ∧ Hid (m = plN c n k) ∧ Blk wr w.heap.size 22 (plR c n k) ∧ Blk wr (w.heap.size + 1) 22 Z16 ∧ Below w.heap.size w wr) (fun _ i _ => (intOf i + 1).toNat)
 case atStart => exact ⟨0, 16, n, Lib.hid rfl, rfl, rfl, by omega, HN, h0', h1, hb0⟩
 case round =>
  clear h0' HN h1 hb0
  obtain ⟨k, J, m, HJ, rfl, rfl, hm, HM, h2, h1, hb⟩ := hrel
  rcases Nat.eq_zero_or_pos J with h | h
  · subst h
    have hk : k = 16 := by have := HJ.out; omega
    subst hk
    rw [plR_all c n] at h2
    clear HM
    go_wp2_with (first
     | (with_reducible refine wpList_ld rfl 22 (.tmp 2) rfl w.heap.size 0 rfl (cells (plusC c n)) (h2.v.range 0 _ (by simp)) (row16 HPL.out) ?_)
     | ((with_reducible refine wpList_st rfl 22 (.tmp 4) (.tmp 23) rfl (w.heap.size + 1) 0 (cells (plusC c n)) rfl rfl 22 _ h1.v (by rw [HPL.out, HZL.out]; omega) (row16 HPL.out) (cells_one _) ?_); intro w2 hB2 ho2; rw [splice_all _ _ (by rw [HPL.out, HZL.out])] at hB2))
    exact ret_row (by rfl) (by rfl) hB2 (row16 HPL.out) (by rfl) ⟨rfl, hb.trans (ho2.below (by omega))⟩
  · obtain ⟨j, rfl⟩ : ∃ j, J = j + 1 := ⟨J - 1, by omega⟩
    have hjk : 15 - k = j := by have := HJ.out; omega
    have hk16 : k < 16 := by have := HJ.out; omega
    have hj16 : j < 16 := by omega
    have hcell := h2.cell (j := j) (by rw [plR_len c n k HC.out (by omega)]; exact hj16)
    have hget := plR_get c n k HC.out hk16
    rw [hjk] at hget
    rw [hget] at hcell
    have hfr := h2.frozen j
    rw [down1 j]
    have hyl := (c.getD j 0).toNat_lt
    obtain ⟨m2, hm2⟩ : ∃ m2, m2 = m + (c.getD j 0).toNat := ⟨_, rfl⟩
    have hsucc := plN_succ c n k HC.out hk16
    rw [hjk, ← HM.out, ← hm2] at hsucc
    have hst := h2.set_ j (UInt8.ofNat m2)
    have hset := plR_set c n k HC.out hk16 (UInt8.ofNat m2) (by rw [hjk, ← HM.out, ← hm2])
    rw [hjk] at hset
    rw [hset] at hst
    have hby := byte_mod m2
    have h1s := h1.far (p := ⟨w.heap.size, j, none⟩) (by simp) (.int .u8 ((UInt8.ofNat m2).toNat : Int))
    have hbs := hb.setCell (p := ⟨w.heap.size, j, none⟩) (by simp) (.int .u8 ((UInt8.ofNat m2).toNat : Int))
    obtain ⟨y, hy⟩ : ∃ y : Int, y = ((c.getD j 0).toNat : Int) := ⟨_, rfl⟩
    rw [← hy] at hcell
    obtain ⟨v, hv⟩ : ∃ v : Int, v = ((UInt8.ofNat m2).toNat : Int) := ⟨_, rfl⟩
    rw [← hv] at hst h1s hbs hby
    have hvl : v < 256 ∧ 0 ≤ v := by omega
    obtain ⟨m3, hm3⟩ : ∃ m3, m3 = m2 / 256 := ⟨_, rfl⟩
    rw [← hm3] at hsucc
    have e0 : IntKind.i64.wrap y = y := IntWalk.i64_in _ (by omega)
    have e1 : IntKind.i64.wrap ((m : Int) + y) = (m2 : Int) := by rw [show (m : Int) + y = (m2 : Int) by omega]; exact IntWalk.i64_in _ (by omega)
    have e2 : (m2 : Int).tmod 256 = v := by rw [Int.tmod_eq_emod_of_nonneg (by omega)]; exact hby
    have e3 : IntKind.i64.wrap v = v := IntWalk.i64_in _ (by omega)
    have e4 : IntKind.u8.wrap v = v := by rw [IntKind.wrap_u8]; omega
    have e5 : (m2 : Int).tdiv 256 = (m3 : Int) := by rw [Int.tdiv_eq_ediv_of_nonneg (by omega)]; omega
    have e6 : IntKind.i64.wrap (m3 : Int) = (m3 : Int) := IntWalk.i64_in _ (by omega)
    have hm4 : m3 ≤ n + 1 := by omega
    have HJ2 : Hid (j + (k + 1) = 16) := Lib.hid (by have := HJ.out; omega)
    have HS := Lib.hid hsucc.symm
    clear hy hv hm2 hm3 hget hset hby hyl hsucc h2 HM hm hvl
    go_wp2
    go_roundw
    case rel => exact ⟨k + 1, j, m3, HJ2, by go_num, by go_num, hm4, Lib.hid HS.out.symm, hst, h1s, hbs⟩
    case measure => simp [intOf]
theorem own_rows {w : World} {base n : Nat} {e : TypeId} {v : Value} {bs : List UInt8} (h : w.ownsRow base e 1 v n (cells bs)) (hn : 0 < n) : ∃ g cap, v = .slice (some ⟨g, 0, none⟩) n cap ∧ base ≤ g ∧ g < w.heap.size ∧ ∀ j, j < n → w.cell? ⟨g, j, none⟩ = some (.int .u8 ((bs.getD j 0).toNat : Int)) := by
 have hl : bs.length = n := by simpa [length_cells] using h.1
 obtain ⟨g, cap, hv, hb, hg⟩ := h.form hn
 subst hv
 exact ⟨g, cap, rfl, hb, hg, fun j hj => (h.cellAt j (by omega)).trans (cells_at (by omega))⟩
theorem cells_only {w w' : World} {g k n : Nat} {f : Nat → Value} (h : ∀ j, j < n → w.cell? ⟨g, j, none⟩ = some (f j)) (ho : Only k w w') (hk : g ≠ k) : ∀ j, j < n → w'.cell? ⟨g, j, none⟩ = some (f j) :=
 fun j hj => (World.cell?_of_block (w := w) (a := ⟨g, j, none⟩) (ho.block g hk)).trans (h j hj)
theorem salt_fill (salt : List UInt8) (h : salt.length = 14) : fillAt (fun i => salt.getD i 0) Z16 14 = saltZ salt := by
 have e : (List.range 14).map (fun i => salt.getD i 0) = salt := list_tab salt h
 rw [fillAt, e]
 rfl

theorem own_lower {w : World} {base base' : Nat} {e : TypeId} {v : Value} {n : Nat} {xs : List Value} (h : w.ownsRow base e 1 v n xs) (hb : base' ≤ base) : w.ownsRow base' e 1 v n xs :=
 ⟨h.1, h.2.imp id fun ⟨g, cap, cur, h1, h2, h3⟩ => ⟨g, cap, cur, h1, Nat.le_trans hb h2, h3⟩⟩
structure REnv (w1 : World) (G : Nat) (N : List UInt8) (v : Value) (i : Nat) (out : List UInt8) (wr : World) : Prop where
 b : Below G w1 wr
 n : Blk wr G 22 N
 o : wr.ownsRow (G + 1) 5 1 v i (cells out)
theorem REnv.below {w1 : World} {G : Nat} {N : List UInt8} {v : Value} {i : Nat} {out : List UInt8} {wr w' : World} (h : REnv w1 G N v i out wr) (hb : Below wr.heap.size wr w') : REnv w1 G N v i out w' :=
 ⟨h.b.trans (hb.mono (Nat.le_of_lt h.n.lt)), h.n.below hb h.n.lt, own_below h.o hb⟩
theorem REnv.put {w1 : World} {G : Nat} {N X : List UInt8} {v : Value} {i : Nat} {out : List UInt8} {wr w' : World} (h : REnv w1 G N v i out wr) (ho : Only G wr w') (hX : Blk w' G 22 X) : REnv w1 G X v i out w' :=
 ⟨h.b.trans (ho.below (Nat.le_refl _)), hX, h.o.kept (row := some G) ho.grown (by
  rcases hv : v.ownBlock with _ | q
  · exact .inl rfl
  · refine .inr fun e => ?_
    have := (h.o.lt q hv).1
    injection e with e
    omega)⟩

set_option maxRecDepth 100000 in
set_option maxHeartbeats 4000000 in
theorem rcipher_any (key c : List UInt8) (A : Option Addr) (n cap : Nat) (bs : List UInt8) (w : World) (hk : key.length = 16) (hc : c.length = 16) (hr : RdS w A n cap bs) (hn : n ≤ 4096) :
 Calls Tryz.prog 66 #[.agg (cells key).toArray, .agg (cells c).toArray, .slice A n cap] w fun e w' => ∃ v, e = .returned v ∧ w'.ownsRow w.heap.size 5 1 v n (cells (cph key c bs)) ∧ Below w.heap.size w w' := by
 have hz := zero16
 obtain ⟨hb0, h0, h1⟩ := boxes2 w key c
 have hl := hr.len
 have HKL : Hid ((cells key).length = 16) := Lib.hid (by rw [length_cells, hk])
 have HCL : Hid ((cells c).length = 16) := Lib.hid (by rw [length_cells, hc])
 have hZL : (cells Z16).length = 16 := by rw [length_cells, Z16_len]
 have HZL := Lib.hid hZL
 have hrn := fun wx => rnewS_any key wx hk
 have HRN := Lib.hid hrn
 have HC := Lib.hid hc
 have HL := Lib.hid hl
 clear hk hc hZL hrn hl
 go_enter Tryz.func66, Tryz.ntmps66
 go_wp2_with (first
  | (with_reducible refine wpList_ld rfl 22 (.tmp 3) rfl w.heap.size 0 rfl (cells key) (h0.v.range 0 _ (by simp)) (row16 HKL.out) ?_)
  | (go_at_call 86; ((with_reducible refine (HRN.out _).mono ?_); rintro e w1 ⟨p, gB, gW, cW, rfl, hC1, hb1⟩)))
 have k1 := h1.below hb1 h1.lt
 have kl := h1.lt
 have hr1 := (hr.below hb0).below hb1
 have hb1w := hb0.trans (hb1.mono hb0.size)
 clear h0 h1 hb0 hb1 HRN
 obtain ⟨G, hG⟩ : ∃ G, G = w1.heap.size := ⟨_, rfl⟩
 have hE0 : REnv w1 G Z16 (.slice none 0 0) 0 ((cph key c bs).take 0) (w1.alloc (.cells (cells Z16).toArray 22)) := by
  rw [hG]
  exact ⟨(Below.refl _ _).alloc (Nat.le_refl _) _, Blk.new _ _ _, World.ownsRow_nil _ _ _ _⟩
 have HG := Lib.hid hG
 have hwG : w.heap.size + 1 < G := by rw [hG]; exact k1.lt
 rw [← hG]
 clear hG
 have HN0 : Hid (Z16.length = 16 ∧ (0 % 16 ≠ 0 → Z16 = enc (kall key) (plusC c (0 / 16)))) := Lib.hid ⟨Z16_len, fun h => absurd rfl h⟩
 go_loopw [8, 10] (fun vo vi wr => ∃ (i : Nat) (A' : Option Addr) (c' : Nat) (N : List UInt8), i ≤ n ∧ vi = .int .i64 i ∧ vo = .slice A' i c' ∧ Hid (N.length = 16 ∧ (i % 16 ≠ 0 → N = enc (kall key) (plusC c (i / 16)))) ∧ REnv w1 G N (.slice A' i c') i ((cph key c bs).take i) wr) (fun _ i _ => n - (intOf i).toNat)
 case atStart => exact ⟨0, none, 0, Z16, by omega, rfl, rfl, HN0, hE0⟩
 case round =>
  clear hE0 HN0
  obtain ⟨i, A', c', N, hi, rfl, rfl, HN, hE⟩ := hrel
  by_cases hlt : i < n
  · have hCw := hC1.below (HG.out ▸ hE.b)
    have kw := k1.below hE.b (by omega)
    have hb := hb1w.trans (hE.b.mono (by omega))
    obtain ⟨L, hL⟩ : ∃ L, L = i % 16 := ⟨_, rfl⟩
    obtain ⟨J, hJ⟩ : ∃ J, J = i / 16 := ⟨_, rfl⟩
    rw [← hL, ← hJ] at HN
    have e1 : (i : Int).tmod 16 = (L : Int) := by rw [Int.tmod_eq_emod_of_nonneg (by omega)]; omega
    have e2 : IntKind.i64.wrap (L : Int) = (L : Int) := IntWalk.i64_in _ (by omega)
    have e3 : (i : Int).tdiv 16 = (J : Int) := by rw [Int.tdiv_eq_ediv_of_nonneg (by omega)]; omega
    have e4 : IntKind.i64.wrap (J : Int) = (J : Int) := IntWalk.i64_in _ (by omega)
    have hli : (i : Int) < (n : Int) := by omega
    have hpl := fun wx => rplus_any c J wx HC.out (by omega)
    have hbk := fun wx (hx : RCiph wx p gB gW cW key) => rblock_any p gB gW cW key (plusC c J) wx (plusC_len _ _) hx
    obtain ⟨X, hX⟩ : ∃ X, X = enc (kall key) (plusC c J) := ⟨_, rfl⟩
    have hXl : X.length = 16 := by rw [hX]; exact enc_len _ _
    rw [← hX] at HN
    simp only [← hX] at hbk
    have hNL : (cells N).length = 16 := by rw [length_cells, HN.out.1]
    have hXL : (cells X).length = 16 := by rw [length_cells, hXl]
    have HNL := Lib.hid hNL
    have HXL := Lib.hid hXL
    have HXl := Lib.hid hXl
    have HX := Lib.hid hX
    have HPL := Lib.hid hpl
    have HBK := Lib.hid hbk
    have HLe := Lib.hid hL
    have HJe := Lib.hid hJ
    clear hpl hbk hX hXl hNL hXL hL hJ
    go_upto_if 21 with (fail)
    go_cut [] (fun wx => REnv w1 G X (.slice A' i c') i ((cph key c bs).take i) wx)
    case first =>
     by_cases h0 : L = 0
     · subst h0
       go_wp2_with (first
        | (with_reducible refine wpList_ld rfl 22 (.tmp 4) rfl (w.heap.size + 1) 0 rfl (cells c) (kw.v.range 0 _ (by simp)) (row16 HCL.out) ?_)
        | (go_at_call 88; ((with_reducible refine (HPL.out _).mono ?_); rintro e w3 ⟨rfl, hb3⟩; have hC3 := hCw.below hb3; have hE3 := hE.below hb3))
        | (go_at_call 87; ((with_reducible refine (HBK.out w3 hC3).mono ?_); rintro e w4 ⟨rfl, hb4⟩; have hE4 := hE3.below hb4; have hN4 := hE4.n))
        | ((with_reducible refine wpList_st rfl 22 (.tmp 9) (.tmp 27) rfl G 0 (cells X) rfl rfl 22 _ hN4.v (by rw [HXL.out, HNL.out]; omega) (row16 HXL.out) (cells_one _) ?_); intro w5 hB5 ho5; rw [splice_all _ _ (by rw [HXL.out, HNL.out])] at hB5))
       go_meet
       exact hE4.put ho5 hB5
     · have hNX := HN.out.2 h0
       rw [hNX] at hE
       have hLi : ((L : Int) = 0) = False := by simp; omega
       go_wp2
       go_meet
       exact hE
    case rest =>
     have hE := hcut
     clear hcut
     have hrw := hr1.below (HG.out ▸ hE.b)
     have hcb : ∃ ad, A = some ad ∧ ad.block < G ∧ wc.cell? (ad.add i) = some (.int .u8 ((bs.getD i 0).toNat : Int)) := by
      obtain ⟨b, off, hA, hbl, hcc⟩ := hr1.2.2.2.2 (by omega)
      obtain ⟨b2, off2, hA2, hbl2, hcc2⟩ := hrw.2.2.2.2 (by omega)
      rw [hA] at hA2
      injection hA2 with hA2
      injection hA2 with q1 q2
      subst q1; subst q2
      exact ⟨_, hA, by rw [HG.out]; exact hbl, by rw [add_lit]; exact hcc2 i hlt⟩
     obtain ⟨ad, rfl, hadG, hcb⟩ := hcb
     have hL16 : L < 16 := by have := HLe.out; omega
     have hLi : (L : Int) < 16 := by omega
     have hcn := hE.n.cell (j := L) (by rw [HXl.out]; exact hL16)
     have hV : bits BinOp.xor IntKind.u8 ((bs.getD i 0).toNat : Int) ((X.getD L 0).toNat : Int) = ((cphB key c bs i).toNat : Int) := by
      rw [xr8, cphB, ksB, ← HJe.out, ← HLe.out, ← HX.out]
     have hstep := cph_step key c bs i (by rw [HL.out]; exact hlt)
     obtain ⟨V, hVe⟩ : ∃ V, V = cphB key c bs i := ⟨_, rfl⟩
     obtain ⟨x, hx⟩ : ∃ x : Int, x = ((bs.getD i 0).toNat : Int) := ⟨_, rfl⟩
     obtain ⟨y, hy⟩ : ∃ y : Int, y = ((X.getD L 0).toNat : Int) := ⟨_, rfl⟩
     rw [← hVe] at hV hstep
     obtain ⟨v, hv⟩ : ∃ v : Int, v = (V.toNat : Int) := ⟨_, rfl⟩
     rw [← hx, ← hy, ← hv] at hV
     rw [← hx] at hcb
     rw [← hy] at hcn
     have HV := Lib.hid hv
     have HST := Lib.hid hstep
     have hab : (ad.add i).block < G := by rw [show (ad.add i).block = ad.block by unfold Addr.add; split <;> rfl]; exact hadG
     clear hadG
     clear hVe hx hy hv hstep hrw kw hb hCw
     go_wp2
     refine wp_region_noPanic ?_
     refine wp_region_held (S := fun wx => wx.cell? (ad.add i) = some (.int .u8 x) ∧ wx.cell? ⟨G, L, none⟩ = some (.int .u8 y)) (by kernel_rfl) ?_
     change wpAnyH _ _ _ _ _ _ _ _ (World.drew _)
     have hED := hE.below ((Below.refl _ _).drew)
     have hS : (wc.drew).cell? (ad.add i) = some (.int .u8 x) ∧ (wc.drew).cell? ⟨G, L, none⟩ = some (.int .u8 y) := ⟨hcb, hcn⟩
     clear hE hcb hcn
     generalize wc.drew = wq at *
     have hGq := hED.n.lt
     refine wpAnyH_take (i := 0) (v := ?_) rfl (by kernel_rfl) (by kernel_rfl) (by kernel_rfl) (fun _ _ _ h => h) (Or.inl ⟨by rfl, ?_⟩) hS ?_
     case refine_2 => (intro wz hz; go_simp; with_reducible rfl)
     simp only [Act.put, xgT, xgZ, xsT, xsS, xsZ]
     refine wpAnyH_take (i := 1) (v := ?_) rfl (by kernel_rfl) (by kernel_rfl) (by kernel_rfl) (fun _ _ _ h => h) (Or.inl ⟨by rfl, ?_⟩) hS ?_
     case refine_2 => (intro wz hz; go_simp; with_reducible rfl)
     simp only [Act.put, xgT, xgS, xgZ, xsT, xsS, xsZ]
     refine wpAnyH_take (i := 2) (v := ?_) rfl (by kernel_rfl) (by kernel_rfl) (by kernel_rfl) (fun _ _ _ h => h) (Or.inl ⟨by rfl, ?_⟩) hS ?_
     case refine_2 => (intro wz hz; go_simp; with_reducible rfl)
     simp only [Act.put, xgT, xgS, xgZ, xsT, xsS, xsZ]
     refine wpAnyH_take (i := 3) (v := ?_) rfl (by kernel_rfl) (by kernel_rfl) (by kernel_rfl) (fun _ _ _ h => h) (Or.inl ⟨by rfl, ?_⟩) hS ?_
     case refine_2 => (intro wz hz; go_simp; with_reducible rfl)
     simp only [Act.put, xgT, xgS, xgZ, xsT, xsS, xsZ]
     refine wpAnyH_take (i := 4) (v := ?_) rfl (by kernel_rfl) (by kernel_rfl) (by kernel_rfl) (fun _ _ _ h => h) (Or.inl ⟨by rfl, ?_⟩) hS ?_
     case refine_2 => (intro wz hz; obtain ⟨z1, z2⟩ := hz; go_simp; with_reducible rfl)
     simp only [Act.put, xgT, xgS, xgZ, xsT, xsS, xsZ]
     refine wpAnyH_take (i := 5) (v := ?_) rfl (by kernel_rfl) (by kernel_rfl) (by kernel_rfl) (fun _ _ _ h => h) (Or.inl ⟨by rfl, ?_⟩) hS ?_
     case refine_2 => (intro wz hz; go_simp; with_reducible rfl)
     simp only [Act.put, xgT, xgS, xgZ, xsT, xsS, xsZ]
     refine wpAnyH_take (i := 6) (v := ?_) rfl (by kernel_rfl) (by kernel_rfl) (by kernel_rfl) (fun _ _ _ h => h) (Or.inl ⟨by rfl, ?_⟩) hS ?_
     case refine_2 => (intro wz hz; go_simp; with_reducible rfl)
     simp only [Act.put, xgT, xgS, xgZ, xsT, xsS, xsZ]
     refine wpAnyH_take (i := 7) (v := ?_) rfl (by kernel_rfl) (by kernel_rfl) (by kernel_rfl) (fun _ _ _ h => h) (Or.inl ⟨by rfl, ?_⟩) hS ?_
     case refine_2 => (intro wz hz; go_simp; with_reducible rfl)
     simp only [Act.put, xgT, xgS, xgZ, xsT, xsS, xsZ]
     refine wpAnyH_take (i := 8) (v := ?_) rfl (by kernel_rfl) (by kernel_rfl) (by kernel_rfl) (fun _ _ _ h => h) (Or.inl ⟨by rfl, ?_⟩) hS ?_
     case refine_2 => (intro wz hz; obtain ⟨z1, z2⟩ := hz; go_simp; with_reducible rfl)
     simp only [Act.put, xgT, xgS, xgZ, xsT, xsS, xsZ]
     refine wpAnyH_take (i := 9) (v := ?_) rfl (by kernel_rfl) (by kernel_rfl) (by kernel_rfl) (fun _ _ _ h => h) (Or.inl ⟨by rfl, ?_⟩) hS ?_
     case refine_2 => (intro wz hz; go_simp; with_reducible rfl)
     simp only [Act.put, xgT, xgS, xgZ, xsT, xsS, xsZ]
     refine anyH_one (i := 10) (by kernel_rfl) rfl rfl (fun H hH => ?_)
     simp only [xgT, xgS, xgZ]
     go_simp
     have hEa := hED.below ((Below.refl _ _).alloc (Nat.le_refl _) (.cells #[.int .u8 v] 5))
     have hSa : (wq.alloc (.cells #[.int .u8 v] 5)).cell? (ad.add i) = some (.int .u8 x) ∧ (wq.alloc (.cells #[.int .u8 v] 5)).cell? ⟨G, L, none⟩ = some (.int .u8 y) := by
      have hbq := (Below.refl wq.heap.size wq).alloc (Nat.le_refl _) (.cells #[.int .u8 v] 5)
      exact ⟨(hbq.cell (p := ad.add i) (by omega)).trans hS.1, (hbq.cell (p := ⟨G, L, none⟩) hGq).trans hS.2⟩
     refine hH _ _ hSa ?_
     clear hH H
     refine anyH_one (i := 11) (by kernel_rfl) rfl rfl (fun H hH => ?_)
     simp only [xgT, xgS, xgZ]
     refine wp_append_rd _ (.tmp 28) (.tmp 38) rfl Tryz.underlying32 u8_inf (G + 1) (.slice A' i c') i ((cph key c bs).take i) (by rfl) hEa.o (some ⟨wq.heap.size, 0, none⟩) 1 1 [V] (by rfl) (rd_one8 wq V v HV.out _) (by omega) (by have := hEa.n.lt; omega) ?_
     intro v2 w2 hown2 hg2 hat2
     have hltb := hEa.o.lt
     have hne : ∀ q, Value.ownBlock (.slice A' i c') = some q → G + 1 ≤ q := fun q hq => (hltb q hq).1
     have hb2 : Below G w1 w2 := hEa.b.grown hg2 (Nat.le_of_lt hEa.n.lt) (fun q hq => by have := hne q hq; omega)
     have hn2 := hEa.n.grown hg2 (fun e => by have := hne G e.symm; omega)
     have hGa := hEa.n.lt
     have hS2 : w2.cell? (ad.add i) = some (.int .u8 x) ∧ w2.cell? ⟨G, L, none⟩ = some (.int .u8 y) :=
      ⟨(hg2.cell_far (ad.add i) (by omega) (fun e => by have := hne _ e.symm; omega)).trans hSa.1, (hg2.cell_far ⟨G, L, none⟩ hGa (fun e => by have := hne _ e.symm; simp only at this; omega)).trans hSa.2⟩
     obtain ⟨A3, c3, rfl⟩ := own_form hown2
     refine hH _ _ hS2 ?_
     clear hH H
     rw [← HST.out] at hown2
     refine wpAnyH_take (i := 12) (v := ?_) rfl (by kernel_rfl) (by kernel_rfl) (by kernel_rfl) (fun _ _ _ h => h) (Or.inl ⟨by rfl, ?_⟩) hS2 ?_
     case refine_2 => (intro wz hz; go_simp; with_reducible rfl)
     simp only [Act.put, xgT, xgS, xgZ, xsT, xsS, xsZ]
     refine wpAnyH_done (by kernel_rfl) ?_ _
     refine NoPanic.normal ?_
     clear hS2 hSa hEa hED hS hg2 hat2 hltb hne
     go_wp2
     go_roundw
     case rel => exact ⟨i + 1, A3, c3, X, by omega, by go_num, by go_num, Lib.hid ⟨HXl.out, fun hne => by rw [HX.out, HJe.out]; congr 2; omega⟩, ⟨hb2, hn2, hown2⟩⟩
     case measure => simp [intOf]; omega
  · obtain rfl : i = n := by omega
    have ho := hE.o
    have hb := hb1w.trans (hE.b.mono (by omega))
    rw [List.take_of_length_le (by rw [cph_len, HL.out]; omega)] at ho
    go_wp2
    go_ret
    exact ⟨_, rfl, own_lower ho (by omega), hb⟩
end Go.Proofs.YtheefckohnaceaaGreatDoor

namespace Go.Proofs.YtheefckohnaceaaGreatDoor
set_option linter.unusedVariables false

structure Vp where
 st : Bool
 part : Nat
 has : Bool
 wide : Bool
 pic : Nat
 key : Bool
 head : Nat
def vC (v : Vp) : List Value := [.bool v.st, .int .u8 (v.part : Int), .bool v.has, .bool v.wide, .int .u16 (v.pic : Int), .bool v.key, .int .i64 (v.head : Int)]
def noV : Vp := ⟨false, 0, false, false, 0, false, 0⟩
def bV (bs : List UInt8) (i : Nat) : Nat := (bs.getD i 0).toNat
def secV (bs : List UInt8) : Nat := if 128 ≤ bV bs 0 then bV bs 1 else 0
def fstV (bs : List UInt8) : Nat := if 128 ≤ bV bs 0 then 2 else 1
def hasV (bs : List UInt8) : Bool := decide (128 ≤ secV bs)
def wideV (bs : List UInt8) : Bool := hasV bs && decide (128 ≤ bV bs 2)
def picV (bs : List UInt8) : Nat := if wideV bs then (bV bs 2 - 128) * 256 + bV bs 3 else if hasV bs then bV bs 2 else 0
def at1V (bs : List UInt8) : Nat := fstV bs + (if hasV bs then (if wideV bs then 2 else 1) else 0)
def at2V (bs : List UInt8) : Nat := at1V bs + (if secV bs / 64 % 2 = 1 then 1 else 0)
def at3V (bs : List UInt8) : Nat := at2V bs + (if secV bs / 32 % 2 = 1 ∨ secV bs / 16 % 2 = 1 then 1 else 0)
def keyV (bs : List UInt8) : Bool := decide ((bV bs 0 / 16 % 2 = 1 ∧ bV bs 0 % 8 = 0) ∧ at3V bs < bs.length ∧ bV bs (at3V bs) % 2 = 0)
def whyV (bs : List UInt8) : Nat :=
 if bs.length < 1 then 2
 else if bV bs 0 / 64 % 2 = 1 ∨ bV bs 0 / 8 % 2 = 1 then 3
 else if 128 ≤ bV bs 0 ∧ bs.length < 2 then 2
 else if 0 < secV bs % 16 then 3
 else if hasV bs = true ∧ bs.length ≤ 2 then 2
 else if wideV bs = true ∧ bs.length ≤ 3 then 2
 else if bs.length < at3V bs then 2
 else 0
def vpV (bs : List UInt8) : Vp := if whyV bs = 0 then ⟨decide (bV bs 0 / 16 % 2 = 1), bV bs 0 % 8, hasV bs, wideV bs, picV bs, keyV bs, at3V bs⟩ else noV
def plcV (bs : List UInt8) : Nat := if whyV bs = 0 ∧ hasV bs = true then 2 else 0
def G1 (bs : List UInt8) : Prop := ¬ bs.length < 1 ∧ ¬ (bV bs 0 / 64 % 2 = 1 ∨ bV bs 0 / 8 % 2 = 1)
def G2 (bs : List UInt8) : Prop := G1 bs ∧ ¬ (128 ≤ bV bs 0 ∧ bs.length < 2) ∧ ¬ 0 < secV bs % 16
def G3 (bs : List UInt8) : Prop := G2 bs ∧ ¬ (hasV bs = true ∧ bs.length ≤ 2) ∧ ¬ (wideV bs = true ∧ bs.length ≤ 3)
end Go.Proofs.YtheefckohnaceaaGreatDoor

namespace Go.Proofs.YtheefckohnaceaaGreatDoor
open Go.RowKit
set_option linter.unusedVariables false

def R13 (bs : List UInt8) (w : World) (e : Ending) (w' : World) : Prop := e = .returned (.tuple #[.agg (vC (vpV bs)).toArray, .int .i64 (plcV bs : Int), .int .i64 (whyV bs : Int)]) ∧ Below w.heap.size w w'
theorem R13.no {bs : List UInt8} {w w' : World} {q : Nat} (h : whyV bs = q) (h0 : ¬ q = 0) (hb : Below w.heap.size w w') : R13 bs w (.returned (.tuple #[.agg #[.bool false, .int .u8 0, .bool false, .bool false, .int .u16 0, .bool false, .int .i64 0], .int .i64 0, .int .i64 (q : Int)])) w' := by
 refine ⟨?_, hb⟩
 unfold vpV plcV
 rw [h, if_neg h0, if_neg (fun h => h0 h.1)]
 rfl
theorem own_at {w : World} {base : Nat} {e : TypeId} {A : Option Addr} {n c : Nat} {xs : List UInt8} (h : w.ownsRow base e 1 (.slice A n c) n (cells xs)) (hn : 0 < n) :
 ∃ g, A = some ⟨g, 0, none⟩ ∧ base ≤ g ∧ ∀ j, j < n → w.cell? ⟨g, j, none⟩ = some (.int .u8 ((xs.getD j 0).toNat : Int)) ∧ w.frozen? ⟨g, j, none⟩ = false := by
 have hr := RdS.of_own h
 obtain ⟨g, rfl, hb⟩ := own_blockN h hn
 obtain ⟨b, o, he, _, hc⟩ := hr.2.2.2.2 hn
 injection he with he
 injection he with h1 h2 _
 subst h1; subst h2
 refine ⟨g, rfl, hb, fun j hj => ⟨by have := hc j hj; rwa [Nat.zero_add] at this, ?_⟩⟩
 rcases h.2 with ⟨_, h0⟩ | ⟨g2, cap, cur, hv, _, hg, _⟩
 · omega
 · injection hv with h1 _ _
   injection h1 with h1
   injection h1 with h1 _ _
   subst h1
   exact frozen_of_row w g j _ e hg
theorem own_set {w : World} {base : Nat} {e : TypeId} {g n c : Nat} {xs : List UInt8} (h : w.ownsRow base e 1 (.slice (some ⟨g, 0, none⟩) n c) n (cells xs)) (hn : 0 < n) (j : Nat) (b : UInt8) :
 (w.setCell ⟨g, j, none⟩ (.int .u8 (b.toNat : Int))).ownsRow base e 1 (.slice (some ⟨g, 0, none⟩) n c) n (cells (xs.set j b)) := by
 obtain ⟨hl, h2⟩ := h
 refine ⟨by rw [length_cells, List.length_set, ← length_cells]; exact hl, ?_⟩
 rcases h2 with ⟨_, h0⟩ | ⟨g2, cap, cur, hv, hb, hg, h4, h5, h6, h7⟩
 · omega
 · injection hv with h1 _ hc
   injection h1 with h1
   injection h1 with h1 _ _
   subst h1; subst hc
   refine .inr ⟨g, c, cur.setIfInBounds j (.int .u8 (b.toNat : Int)), rfl, hb, heap_setCell_same w g j cur e _ hg, h4, h5, by simpa using h6, ?_⟩
   rw [Array.toList_setIfInBounds, List.take_set, h7, cells_set]
theorem row30_ : RowTy Tryz.prog 25 30 := ⟨_, Tryz.underlying25, rfl, by kernel_rfl⟩
theorem row30 {n : Nat} (h : n = 30) : RowTy Tryz.prog 25 n := h ▸ row30_
theorem row50_ : RowTy Tryz.prog 42 50 := ⟨_, Tryz.underlying42, rfl, by kernel_rfl⟩
theorem row50 {n : Nat} (h : n = 50) : RowTy Tryz.prog 42 n := h ▸ row50_
theorem zero50 (w : World) : (zeroValue 42).run Tryz.prog w = .ok (.agg (cells Z50).toArray) w := by kernel_rfl
theorem key_boxes (w : World) (m : List UInt8) : Below w.heap.size w ((w.alloc (Obj.cells (cells m).toArray 25)).alloc (Obj.cells (cells Z16).toArray 22)) ∧
 Blk ((w.alloc (Obj.cells (cells m).toArray 25)).alloc (Obj.cells (cells Z16).toArray 22)) w.heap.size 25 m ∧
 Blk ((w.alloc (Obj.cells (cells m).toArray 25)).alloc (Obj.cells (cells Z16).toArray 22)) (w.heap.size + 1) 22 Z16 :=
 ⟨((Below.refl _ _).alloc (Nat.le_refl _) _).alloc (by simp) _, (Blk.new _ _ _).alloc _, Blk.new_at _ _ _ _ _ (by simp) rfl⟩
theorem bytesK_any (key c : List UInt8) (n : Int) (N : Nat) (w : World) (hk : key.length = 16) (hc : c.length = 16) (hn : n ≤ 4096) (hN : N = n.toNat) :
 Calls Tryz.prog 57 #[.agg (cells key).toArray, .agg (cells c).toArray, .int .i64 n] w fun e w' => ∃ A c', e = .returned (.slice A N c') ∧ RdS w' A N c' (strm key c N) ∧ Below w.heap.size w w' := by
 by_cases h : n < 1
 · have h0 : N = 0 := by omega
   subst h0
   exact (bytes_none key c n w h).mono fun e w' ⟨he, hb⟩ => ⟨none, 0, he, RdS.nil w', hb⟩
 · have hn2 : n = (N : Int) := by omega
   subst hn2
   exact (bytes_any key c N w hk hc (by omega) (by omega)).mono fun e w' ⟨g, he, _, hB, hb⟩ => ⟨some ⟨g, 0, none⟩, N, he, hB.rd (strm_len _ _ _) (Nat.le_refl _) (by simp only [maxLen]; omega), hb⟩

set_option maxRecDepth 100000 in
set_option maxHeartbeats 1000000 in
theorem derive_any (key salt : List UInt8) (l : Nat) (n : Int) (N : Nat) (w : World) (hk : key.length = 16) (hs : salt.length = 14) (hl : l < 256) (hn : n ≤ 4096) (hN : N = n.toNat) :
 Calls Tryz.prog 47 #[.agg (cells (mst key salt)).toArray, .int .u8 (l : Int), .int .i64 n] w fun e w' => ∃ A c', e = .returned (.slice A N c') ∧ RdS w' A N c' (drv key salt l N) ∧ Below w.heap.size w w' := by
 have hz := zero16
 obtain ⟨hb0, h0, h1⟩ := key_boxes w (mst key salt)
 have hsp := salt_splice salt hs
 have hmk := mst_key key salt hk
 have hms := mst_salt key salt hk
 have hby := fun wx => bytesK_any key (labC salt l) n N wx hk (labC_len salt l hs) hn hN
 have hll : (UInt8.ofNat l).toNat = l := by rw [UInt8.toNat_ofNat']; omega
 have hxr := xr8 ((saltZ salt).getD 7 0) (UInt8.ofNat l)
 rw [hll] at hxr
 have hlc : (saltZ salt).set 7 ((saltZ salt).getD 7 0 ^^^ UInt8.ofNat l) = labC salt l := rfl
 have hsz : (saltZ salt).length = 16 := saltZ_len _ hs
 obtain ⟨D, hD⟩ : ∃ D, D = drv key salt l N := ⟨_, rfl⟩
 have hD2 : strm key (labC salt l) N = D := by rw [hD]; rfl
 simp only [hD2] at hby
 rw [← hD]
 obtain ⟨C, hC⟩ : ∃ C, C = labC salt l := ⟨_, rfl⟩
 have hCl : (cells C).length = 16 := by rw [length_cells, hC, labC_len _ _ hs]
 simp only [← hC] at hby hlc
 obtain ⟨SZ, hSZ⟩ : ∃ SZ, SZ = saltZ salt := ⟨_, rfl⟩
 rw [← hSZ] at hsp hsz hlc hxr
 obtain ⟨V, hV⟩ : ∃ V, V = SZ.getD 7 0 ^^^ UInt8.ofNat l := ⟨_, rfl⟩
 rw [← hV] at hlc hxr
 obtain ⟨v, hv⟩ : ∃ v : Int, v = (V.toNat : Int) := ⟨_, rfl⟩
 obtain ⟨y, hy⟩ : ∃ y : Int, y = ((SZ.getD 7 0).toNat : Int) := ⟨_, rfl⟩
 rw [← hv, ← hy] at hxr
 obtain ⟨M, hM⟩ : ∃ M, M = mst key salt := ⟨_, rfl⟩
 rw [← hM] at h0 h1 hb0 hmk hms ⊢
 have hZL : (cells Z16).length = 16 := by rw [length_cells, Z16_len]
 have hKL : (cells key).length = 16 := by rw [length_cells, hk]
 have HZL := Lib.hid hZL
 have HKL := Lib.hid hKL
 have HCL := Lib.hid hCl
 have HSP := Lib.hid hsp
 have HMK := Lib.hid hmk
 have HMS := Lib.hid hms
 have HBY := Lib.hid hby
 have HLC := Lib.hid hlc
 have HSZ := Lib.hid hsz
 have HS := Lib.hid hs
 have HV := Lib.hid hv
 have HY := Lib.hid hy
 clear hsp hmk hms hby hll hlc hsz hD hD2 hC hCl hSZ hV hv hy hM hZL hKL hs hk hn hN
 go_enter Tryz.func47, Tryz.ntmps47
 go_wp2
 go_still_tail 3, (by kernel_rfl)
 change wpList _ _ _ _ _ (World.drew _)
 have k0 := h0.drew
 have k1 := h1.drew
 have kb := hb0.drew
 generalize ((w.alloc (Obj.cells (cells M).toArray 25)).alloc (Obj.cells (cells Z16).toArray 22)).drew = w2 at *
 clear h0 h1 hb0
 have ks := k0.rdAt 16 14 14 HS.out (Nat.le_refl 14) (by simp [maxLen]) HMS.out
 go_wp2_with (first
  | ((with_reducible refine wpList_cp rfl (.tmp 8) (.tmp 10) rfl Tryz.underlying32 u8_inf (w.heap.size + 1) 0 16 16 22 (cells Z16) rfl k1.v (some ⟨w.heap.size, 16, none⟩) 14 14 salt rfl ks (by rw [HZL.out]; omega) 14 (by decide) (by omega) ?_); intro w3 hB3 ho3; rw [HSP.out] at hB3; have hB3' : Blk w3 (w.heap.size + 1) 22 SZ := hB3; have j0 := Blk.only k0 ho3 (by omega); have jb := kb.trans (ho3.below (by omega)); have hcell := hB3'.cell (j := 7) (by rw [HSZ.out]; omega); rw [← HY.out] at hcell; have hfr := hB3'.frozen 7; have hst := hB3'.set_ 7 V; rw [HLC.out, ← HV.out] at hst; have j0s := j0.far (p := ⟨w.heap.size + 1, 7, none⟩) (by simp) (.int .u8 v); have jbs := jb.setCell (p := ⟨w.heap.size + 1, 7, none⟩) (by simp) (.int .u8 v))
  | (with_reducible refine wpList_ld rfl 22 (.tmp 17) rfl w.heap.size 0 rfl (cells key) (j0s.v.range 0 _ HMK.out) (row16 HKL.out) ?_)
  | (with_reducible refine wpList_ld rfl 22 (.tmp 7) rfl (w.heap.size + 1) 0 rfl (cells C) (hst.v.range 0 _ (by simp)) (row16 HCL.out) ?_)
  | (go_at_call 57; ((with_reducible refine (HBY.out _).mono ?_); rintro e w4 ⟨A4, c4, rfl, hr4, hb4⟩)))
 go_ret
 exact ⟨A4, c4, rfl, hr4, jbs.trans (hb4.mono jbs.size)⟩
structure Fr (F : Nat → Prop) (w w2 : World) : Prop where
 os : w2.os = w.os
 tape : w2.tape = w.tape
 output : w2.output = w.output
 size : w.heap.size ≤ w2.heap.size
 keep : ∀ k, k < w.heap.size → ¬ F k → w2.heap[k]? = w.heap[k]?
section
variable {F G : Nat → Prop} {w w2 w3 : World} {B : Nat}
theorem Fr.of_below (h : Below w.heap.size w w2) : Fr F w w2 := ⟨h.os, h.tape, h.output, h.size, fun k hk _ => h.block k hk⟩
theorem Fr.refl (F : Nat → Prop) (w : World) : Fr F w w := .of_below (Below.refl _ _)
theorem Fr.of_only {g : Nat} (h : Only g w w2) (hg : F g) : Fr F w w2 := ⟨h.os, h.tape, h.output, by rw [h.size]; exact Nat.le_refl _, fun k _ hk => h.block k (fun e => hk (by rw [e]; exact hg))⟩
theorem Fr.trans (h : Fr F w w2) (k : Fr G w2 w3) (hG : ∀ i, G i → F i ∨ w.heap.size ≤ i) : Fr F w w3 :=
 ⟨k.os.trans h.os, k.tape.trans h.tape, k.output.trans h.output, Nat.le_trans h.size k.size, fun i hi hn => (k.keep i (Nat.lt_of_lt_of_le hi h.size) (fun hg => by
  rcases hG i hg with h1 | h1
  · exact hn h1
  · omega)).trans (h.keep i hi hn)⟩
theorem Fr.mono (h : Fr F w w2) (hF : ∀ i, F i → G i) : Fr G w w2 := ⟨h.os, h.tape, h.output, h.size, fun k hk hn => h.keep k hk (fun hf => hn (hF k hf))⟩
theorem Fr.then (h : Fr F w w2) (hb : Below w2.heap.size w2 w3) : Fr F w w3 := h.trans (G := fun _ => False) (.of_below hb) (fun _ hf => hf.elim)
theorem Fr.behind (hb : Below w.heap.size w w2) (h : Fr F w2 w3) : Fr F w w3 := (Fr.of_below (F := F) hb).trans h (fun i hi => .inl hi)
theorem Fr.below (h : Fr F w w2) (hF : ∀ k, F k → B ≤ k) (hB : B ≤ w.heap.size) : Below B w w2 := ⟨h.os, h.tape, h.output, h.size, fun k hk => h.keep k (by omega) (fun hf => by have := hF k hf; omega)⟩
theorem Fr.cell (h : Fr F w w2) {a : Addr} (ha : a.block < w.heap.size) (hn : ¬ F a.block) : w2.cell? a = w.cell? a := World.cell?_of_block (h.keep _ ha hn)
theorem BlkV.fr {g : Nat} {e : TypeId} {cs : List Value} (h : BlkV w g e cs) (hf : Fr F w w2) (hn : ¬ F g) : BlkV w2 g e cs := (hf.keep g h.lt hn).trans h
theorem Blk.fr {g : Nat} {e : TypeId} {bs : List UInt8} (h : Blk w g e bs) (hf : Fr F w w2) (hn : ¬ F g) : Blk w2 g e bs := (hf.keep g h.lt hn).trans h
theorem RdS.fr {A : Option Addr} {n c : Nat} {bs : List UInt8} (h : RdS w A n c bs) (hf : Fr F w w2) (hn : 0 < n → ∀ ad, A = some ad → ¬ F ad.block) : RdS w2 A n c bs := by
 refine ⟨h.1, h.2.1, h.2.2.1, h.2.2.2.1, fun h0 => ?_⟩
 obtain ⟨b, off, hA, hlt, hc⟩ := h.2.2.2.2 h0
 exact ⟨b, off, hA, Nat.lt_of_lt_of_le hlt hf.size, fun j hj => (hf.cell (a := ⟨b, off + j, none⟩) hlt (show ¬ F b from hn h0 ⟨b, off, none⟩ hA)).trans (hc j hj)⟩
theorem own_fr {base s m : Nat} {e : TypeId} {v : Value} {xs : List Value} (h : w.ownsRow base e s v m xs) (hf : Fr F w w2) (hn : ∀ g, v.ownBlock = some g → ¬ F g) : w2.ownsRow base e s v m xs := by
 refine ⟨h.1, ?_⟩
 rcases h.2 with hv | ⟨g, cap, cur, rfl, hb, hgg, rest⟩
 · exact .inl hv
 · exact .inr ⟨g, cap, cur, rfl, hb, (hf.keep g (Array.getElem?_eq_some_iff.1 hgg).1 (hn g rfl)).trans hgg, rest⟩
end
theorem own_at_same {w w2 : World} {base n : Nat} {e : TypeId} {v : Value} {xs : List Value} (h : w.ownsRow base e 1 v n xs) (hk : ∀ k, v.ownBlock = some k → w2.heap[k]? = w.heap[k]?) : w2.ownsRow base e 1 v n xs := by
 refine ⟨h.1, h.2.imp id fun ⟨g, cap, cur, h1, h2, h3, h4⟩ => ⟨g, cap, cur, h1, h2, ?_, h4⟩⟩
 rw [hk g (by rw [h1]; rfl)]
 exact h3
structure Lone {σ : Type} (R : World → Value → σ → (Nat → Prop) → Prop) : Prop where
 low : ∀ w p s F, R w p s F → ∀ k, F k → k < w.heap.size
 stay : ∀ w w2 p s F, R w p s F → w.heap.size ≤ w2.heap.size → (∀ k, F k → w2.heap[k]? = w.heap[k]?) → R w2 p s F
theorem Lone.fr {σ : Type} {R : World → Value → σ → (Nat → Prop) → Prop} (h : Lone R) {w w2 : World} {p : Value} {s : σ} {F G : Nat → Prop} (hR : R w p s F) (hf : Fr G w w2) (hn : ∀ k, F k → ¬ G k) : R w2 p s F :=
 h.stay w w2 p s F hR hf.size (fun k hk => hf.keep k (h.low w p s F hR k hk) (hn k hk))
theorem Lone.below {σ : Type} {R : World → Value → σ → (Nat → Prop) → Prop} (h : Lone R) {w w2 : World} {p : Value} {s : σ} {F : Nat → Prop} (hR : R w p s F) (hb : Below w.heap.size w w2) : R w2 p s F :=
 h.fr (G := fun _ => False) hR (.of_below hb) (fun _ _ hf => hf)
theorem ks_at (s : Wy) (h : s.fit) : (∀ i, i < (cells s.key).length → (cells s.ks)[0 + i]? = (cells s.key)[i]?) ∧ ∀ i, i < (cells s.salt).length → (cells s.ks)[36 + i]? = (cells s.salt)[i]? := by
 have hk := Wy.ks_len h
 have hf := h
 obtain ⟨h1, h2, h3, _⟩ := h
 refine ⟨fun i hi => ?_, fun i hi => ?_⟩
 · rw [length_cells] at hi
   rw [cells_at (by omega), cells_at (by omega), Nat.zero_add, ks_key hf (by omega)]
 · rw [length_cells] at hi
   rw [cells_at (by omega), cells_at (by omega), ks_salt hf (by omega)]
theorem ret_b {a b : Bool} (h : a = b) : Ending.returned (.bool a) = .returned (.bool b) := by rw [h]

def winC (h : Int) (p : Nat) : List Value := [.int .i64 h, .int .u64 (p : Int)]
def WinAt (w : World) (g : Nat) (L : List Int) : Prop := ∃ h p, WinS L h p ∧ BlkV w g 90 (winC h p)
section
variable {w w' : World} {g : Nat} {L : List Int}
theorem WinAt.lt (h : WinAt w g L) : g < w.heap.size := by obtain ⟨_, _, _, hB⟩ := h; exact hB.lt
theorem WinAt.below (h : WinAt w g L) (hb : Below w.heap.size w w') : WinAt w' g L := by obtain ⟨x, p, hW, hB⟩ := h; exact ⟨x, p, hW, hB.below hb hB.lt⟩
theorem WinAt.drew (h : WinAt w g L) : WinAt w.drew g L := h
theorem WinAt.only (h : WinAt w g L) {k : Nat} (hb : Only k w w') (hg : g ≠ k) : WinAt w' g L := by obtain ⟨x, p, hW, hB⟩ := h; exact ⟨x, p, hW, hB.only hb hg⟩
theorem WinAt.grown (h : WinAt w g L) {row : Option Nat} (hb : w.grownBy w' row) (hg : some g ≠ row) : WinAt w' g L := by obtain ⟨x, p, hW, hB⟩ := h; exact ⟨x, p, hW, hB.grown hb hg⟩
end

theorem told_some (g : Nat) (h : Int) (p : Nat) (w : World) (hB : BlkV w g 90 (winC h p)) :
 Calls Tryz.prog 61 #[.pointer (some ⟨g, 0, none⟩)] w fun e w' => e = .returned (.int .u64 (p : Int)) ∧ w = w' := by
 have hc : w.cell? ⟨g, 1, none⟩ = some (.int .u64 (p : Int)) := (hB.cell 1).trans rfl
 clear hB
 go_enter Tryz.func61, Tryz.ntmps61
 go_wp2
 go_ret
 exact ⟨rfl, rfl⟩
theorem high_any (g : Nat) (L : List Int) (w : World) (hW : WinAt w g L) :
 Calls Tryz.prog 60 #[.pointer (some ⟨g, 0, none⟩)] w fun e w' => e = .returned (.int .i64 (hiL L)) ∧ w = w' := by
 obtain ⟨h, p, hS, hB⟩ := hW
 have hc : w.cell? ⟨g, 0, none⟩ = some (.int .i64 h) := (hB.cell 0).trans rfl
 have hh := hS.high
 have HT := Lib.hid (told_some g h p w hB)
 obtain ⟨H, hH⟩ : ∃ H, H = hiL L := ⟨_, rfl⟩
 rw [← hH] at hh ⊢
 clear hH hB hS
 by_cases h0 : p = 0
 · rw [if_pos h0] at hh
   subst hh
   subst h0
   go_enter Tryz.func60, Tryz.ntmps60
   go_wp2_with (go_at_call 61; ((with_reducible refine (Hid.out HT).mono ?_); rintro e w' ⟨rfl, rfl⟩))
   go_ret
   exact ⟨rfl, rfl⟩
 · rw [if_neg h0] at hh
   subst hh
   have hd : ((p : Int) == 0) = false := by simp; omega
   go_enter Tryz.func60, Tryz.ntmps60
   go_wp2_with (go_at_call 61; ((with_reducible refine (Hid.out HT).mono ?_); rintro e w' ⟨rfl, rfl⟩))
   go_ret
   exact ⟨rfl, rfl⟩
theorem has_any (p n : Nat) (b : Bool) (w : World) (hp : p < 18446744073709551616) (hn : n < 64) (hb : p.testBit n = b) :
 Calls Tryz.prog 62 #[.int .u64 (p : Int), .int .i64 (n : Int)] w fun e w' => e = .returned (.bool b) ∧ w = w' := by
 have h1 : (p : Int) / 2 ^ n = ((p / 2 ^ n : Nat) : Int) := by simp
 have h2 : p / 2 ^ n ≤ p := Nat.div_le_self _ _
 have h3 : (p / 2 ^ n) % 2 = if b = true then 1 else 0 := by
  rw [← hb, Nat.testBit_eq_decide_div_mod_eq]
  have := Nat.mod_two_eq_zero_or_one (p / 2 ^ n)
  rcases this with h | h <;> simp [h]
 obtain ⟨q, hq⟩ : ∃ q, q = p / 2 ^ n := ⟨_, rfl⟩
 rw [← hq] at h1 h2 h3
 have h4 : bits BinOp.and IntKind.u64 (q : Int) 1 = ((if b = true then 1 else 0 : Nat) : Int) := by
  have h := u64_and_nat q 1 (by omega) (by omega)
  rw [Nat.and_one_is_mod, h3] at h
  exact h
 clear h3 hb hq
 have hn' : (n : Int) < 64 := by omega
 cases b
 · simp only [Bool.false_eq_true, if_false] at h4
   go_enter Tryz.func62, Tryz.ntmps62
   go_wp2
   go_ret
   exact ⟨rfl, rfl⟩
 · simp only [if_true] at h4
   go_enter Tryz.func62, Tryz.ntmps62
   go_wp2
   go_ret
   exact ⟨rfl, rfl⟩
end Go.Proofs.YtheefckohnaceaaGreatDoor
