/- Several texts in one: plain words and walks. No statement is proved here. -/
import Derived.Test.YtmkeioeodlidgaaGreatDoorZM21
import Derived.BigQuiet
import Derived.Deep.RegionLaw
import Derived.Test.YtmkeioeodlidgaaGreatDoorZM12
import Derived.Deep.RegionHeld3
import Derived.StillTailTactics
namespace Go.Proofs.YtmkeioeodlidgaaGreatDoor
open List renaming getElem_toArray → xgT, getElem_cons_succ → xgS, getElem_cons_zero → xgZ, setIfInBounds_toArray → xsT, set_cons_succ → xsS, set_cons_zero → xsZ
open Go.RowKit
set_option linter.unusedVariables false

def bN (b : Bool) : Nat := if b then 1 else 0
theorem bit_any (b : Bool) (w : World) : Calls Tryz.prog 48 #[.bool b] w fun e w' => e = .returned (.int .u64 (bN b : Nat)) ∧ w = w' := by
 cases b
 · go_enter Tryz.func48, Tryz.ntmps48
   go_wp2
   go_ret
   exact ⟨rfl, rfl⟩
 · go_enter Tryz.func48, Tryz.ntmps48
   go_wp2
   go_ret
   exact ⟨rfl, rfl⟩

theorem pad_set (n : Nat) (h : 0 < n) : (List.replicate n (0 : UInt8)).set (n - 1) (UInt8.ofNat n) = padB n := by
 obtain ⟨m, rfl⟩ : ∃ m, n = m + 1 := ⟨n - 1, by omega⟩
 unfold padB
 rw [if_neg (by omega), Nat.add_sub_cancel, List.replicate_succ']
 rw [List.set_append_right _ _ (by simp)]
 simp

theorem padding_any (n : Nat) (w : World) (hn : n < 256) : Calls Tryz.prog 49 #[.int .u8 (n : Int)] w fun e w' => ∃ A c, e = .returned (.slice A n c) ∧ RdS w' A n c (padB n) ∧ Below w.heap.size w w' := by
 by_cases h : n = 0
 · subst h
   have hmk := run_makeB (P := Tryz.prog) Tryz.underlying35 u8_info .u8 .u8 0 0 0 rfl rfl (by omega)
   change (∀ w : World, (Instr.makeSlice 35 (.int .u8 0) (.int .u8 0)).run Tryz.prog w = .ok (.slice (some ⟨w.heap.size, 0, none⟩) 0 0) (w.alloc (.cells #[] 5))) at hmk
   have hb : Hid (Below w.heap.size w (w.alloc (.cells #[] 5))) := Lib.hid ((Below.refl _ _).alloc (Nat.le_refl _) _)
   have HB : Hid (Blk (w.alloc (.cells #[] 5)) w.heap.size 5 []) := Lib.hid (Blk.new w _ [])
   change Calls Tryz.prog 49 #[.int .u8 0] w _
   go_enter Tryz.func49, Tryz.ntmps49
   go_wp2
   go_ret
   exact ⟨_, _, rfl, HB.out.rd rfl (Nat.le_refl _) (by simp [maxLen]), hb.out⟩
 · have hmk := run_makeB (P := Tryz.prog) Tryz.underlying35 u8_info .u8 .u8 (n : Int) (n : Int) n rfl rfl (by omega)
   have hB := Blk.new w 5 (List.replicate n 0)
   have hc := hB.cell (j := n - 1) (by simp; omega)
   have hf := hB.frozen (n - 1)
   have e3 : ((n : Int) - 1) = ((n - 1 : Nat) : Int) := by omega
   have hun : ((UInt8.ofNat n).toNat : Int) = (n : Int) := by rw [UInt8.toNat_ofNat']; omega
   have hst : Hid ((cells (List.replicate n 0)).set (n - 1) (.int .u8 (n : Int)) = cells (padB n)) := Lib.hid (by
    rw [← pad_set n (by omega), ← cells_set, hun])
   have h0 : 0 < n := by omega
   obtain ⟨v, hv⟩ : ∃ v : Value, v = .int .u8 (((List.replicate n (0 : UInt8)).getD (n - 1) 0).toNat : Int) := ⟨_, rfl⟩
   rw [← hv] at hc
   clear hB hv hun h
   go_enter Tryz.func49, Tryz.ntmps49
   go_wp2
   rw [hst.out]
   go_ret
   exact ⟨_, _, rfl, (Blk.new w _ (padB n)).rd (padB_len n) (Nat.le_refl _) (by simp [maxLen]; omega), (Below.refl _ _).alloc (Nat.le_refl _) _⟩

theorem anyH_oneR {P : Program} {md : Region.Mode} {ops : Array Oper} {Q : Exit → Act → World → Prop} {S : World → Prop} {i : Nat} {op : Oper} {fuel : Nat} {listed : Array Bool} {a : Act} {w : World} (hr : Region.ready md ops listed = [i]) (ho : ops[i]? = some op) (hgd : op.guard = none)
 (h : ∀ K : Act → World → Prop, (∀ a w, S w → wpAnyH P md ops Q S fuel (listed.setIfInBounds i true) a w → K a w) → op.wp P a w K Q) : wpAnyH P md ops Q S (fuel + 1) listed a w :=
 anyH_oneG hr ho (by simp [Region.wanted, hgd]) h

theorem hd_eq (p : Pkt) : hdN' p = hdN p := rfl
set_option maxRecDepth 100000 in
set_option maxHeartbeats 1000000 in
theorem may_core (cs : List Value) (p : Pkt) (t : Bool) (w : World) (h : PkRd w cs p) (m1 : p.ty ≤ 127) (m2 : p.ot.length ≤ 15) (m3 : p.x = true ∨ (p.xt.length = 0 ∧ p.pf = 0)) (m4 : p.xt.length % 4 = 0) (m5 : p.xt.length ≤ 1020) (m6 : decide (hdN' p + p.pl.length + p.pd ≤ 1200) = t) (hp : p.pl.length ≤ 1000000) (hpd : p.pd < 256) :
 Calls Tryz.prog 46 #[.agg cs.toArray] w fun e w' => e = .returned (.bool t) ∧ Below w.heap.size w w' := by
 have m7 : hdN' p ≤ 1200 := by unfold hdN'; split <;> omega
 have HS := Lib.hid (fun wx hx => size_any cs p wx hx (by omega) (by omega))
 have HP := Lib.hid h
 have hlen := Lib.hid h.len
 have hone := Lib.hid h.one
 obtain ⟨A1, a1, B1, b1, D1, d1, e1, u1, x1, y1⟩ := h
 obtain ⟨H, hH⟩ : ∃ H, H = hdN p := ⟨_, rfl⟩
 rw [hd_eq, ← hH] at m6 m7
 rw [← hH] at HS
 obtain ⟨PK, hPK⟩ : ∃ PK : {q : Pkt // q = p}, PK.val = p := ⟨⟨p, rfl⟩, rfl⟩
 rw [← hPK] at HP
 simp only [← hPK] at HS
 obtain ⟨m, ty, sq, st, so, U, x, pf, X, Y, pd⟩ := p
 simp only at m1 m2 m3 m4 m5 m6 hp hpd e1
 have HW : Hid (Below w.heap.size w (w.alloc (.cells cs.toArray 37))) := Lib.hid ((Below.refl _ _).alloc (Nat.le_refl _) _)
 have hB := BlkV.new w 37 cs
 have HB := Lib.hid hB
 have HP2 := Lib.hid (HP.out.below HW.out)
 have k1 : (w.alloc (.cells cs.toArray 37)).cell? ⟨w.heap.size, 1, none⟩ = some (.int .u8 (ty : Int)) := by rw [hB.cell, e1]; rfl
 have k5 : (w.alloc (.cells cs.toArray 37)).cell? ⟨w.heap.size, 5, none⟩ = some (.slice A1 U.length a1) := by rw [hB.cell, e1]; rfl
 have k6 : (w.alloc (.cells cs.toArray 37)).cell? ⟨w.heap.size, 6, none⟩ = some (.bool x) := by rw [hB.cell, e1]; rfl
 have k7 : (w.alloc (.cells cs.toArray 37)).cell? ⟨w.heap.size, 7, none⟩ = some (.int .u16 (pf : Int)) := by rw [hB.cell, e1]; rfl
 have k8 : (w.alloc (.cells cs.toArray 37)).cell? ⟨w.heap.size, 8, none⟩ = some (.slice B1 X.length b1) := by rw [hB.cell, e1]; rfl
 have k9 : (w.alloc (.cells cs.toArray 37)).cell? ⟨w.heap.size, 9, none⟩ = some (.slice D1 Y.length d1) := by rw [hB.cell, e1]; rfl
 have ka : (w.alloc (.cells cs.toArray 37)).cell? ⟨w.heap.size, 10, none⟩ = some (.int .u8 (pd : Int)) := by rw [hB.cell, e1]; rfl
 obtain ⟨K, hK⟩ : ∃ K, K = U.length := ⟨_, rfl⟩
 obtain ⟨M, hM⟩ : ∃ M, M = X.length := ⟨_, rfl⟩
 obtain ⟨L, hL⟩ : ∃ L, L = Y.length := ⟨_, rfl⟩
 rw [← hK] at m2 k5
 rw [← hM] at m3 m4 m5 k8
 rw [← hL] at m6 hp k9
 have q4 : ((M : Int) % 4 != 0) = false := by simp; omega
 have hmx : x = true ∨ (x = false ∧ M = 0 ∧ pf = 0) := by
  rcases m3 with h | h
  · exact .inl h
  · cases x
    · exact .inr ⟨rfl, h⟩
    · exact .inl rfl
 clear e1 hB u1 x1 y1 hK hM hL m3 m4 hH
 have HC9 : Hid (cs[9]? = some (.slice D1 L d1)) := Lib.hid (by rw [← HB.out.cell 9]; exact k9)
 have HC10 : Hid (cs[10]? = some (.int .u8 (pd : Int))) := Lib.hid (by rw [← HB.out.cell 10]; exact ka)
 have w1 : IntKind.i64.wrap ((H : Int) + (L : Int)) = (H : Int) + (L : Int) := by rw [IntKind.wrap_i64]; omega
 have w2 : IntKind.i64.wrap ((H : Int) + (L : Int) + (pd : Int)) = (H : Int) + (L : Int) + (pd : Int) := by rw [IntKind.wrap_i64]; omega
 have w3 : IntKind.i64.wrap (pd : Int) = (pd : Int) := by rw [IntKind.wrap_i64]; omega
 have w4 : decide ((H : Int) + (L : Int) + (pd : Int) ≤ 1200) = t := by rw [← m6, Bool.eq_iff_iff]; simp; omega
 clear m6
 rcases hmx with rfl | ⟨rfl, rfl, rfl⟩
 · go_enter Tryz.func46, Tryz.ntmps46
   go_wp2
   have hS : BlkV (w.alloc (.cells cs.toArray 37)).drew w.heap.size 37 cs ∧ PkRd (w.alloc (.cells cs.toArray 37)).drew cs PK.val ∧ Below w.heap.size w (w.alloc (.cells cs.toArray 37)).drew := ⟨HB.out, HP2.out.below ((Below.refl _ _).drew), HW.out.drew⟩
   clear k1 k5 k6 k7 k8 k9 ka
   refine wp_region_noPanic ?_
   refine wp_region_held (S := fun wz => BlkV wz w.heap.size 37 cs ∧ PkRd wz cs PK.val ∧ Below w.heap.size w wz) (by kernel_rfl) ?_
   change wpAnyH _ _ _ _ _ _ _ _ (World.drew _)
   generalize (w.alloc (.cells cs.toArray 37)).drew = w3 at hS ⊢
   refine wpAnyH_take (i := 0) (v := .agg cs.toArray) rfl (by kernel_rfl) (by kernel_rfl) (by kernel_rfl) (fun _ _ _ h => h) (Or.inl ⟨by rfl, fun wz hz => ?_⟩) hS ?_
   · exact run_ld 37 _ rfl w.heap.size 0 (by rfl) cs (hz.1.range 0 _ (fun i _ => by rw [Nat.zero_add])) (row11 hlen.out)
   simp only [Act.put, xgT, xgZ, xsT, xsS, xsZ]
   refine wpAnyH_take (i := 2) (v := ?_) rfl (by kernel_rfl) (by kernel_rfl) (by kernel_rfl) (fun _ _ _ h => h) (Or.inl ⟨by rfl, ?_⟩) hS ?_
   case refine_2 => (intro wz hz; go_simp; with_reducible rfl)
   simp only [Act.put, xgT, xgS, xgZ, xsT, xsS, xsZ]
   refine wpAnyH_take (i := 3) (v := ?_) rfl (by kernel_rfl) (by kernel_rfl) (by kernel_rfl) (fun _ _ _ h => h) (Or.inl ⟨by rfl, ?_⟩) hS ?_
   case refine_2 => (intro wz hz; have h9 := (hz.1.cell 9).trans HC9.out; go_simp; with_reducible rfl)
   simp only [Act.put, xgT, xgS, xgZ, xsT, xsS, xsZ]
   refine wpAnyH_take (i := 4) (v := ?_) rfl (by kernel_rfl) (by kernel_rfl) (by kernel_rfl) (fun _ _ _ h => h) (Or.inl ⟨by rfl, ?_⟩) hS ?_
   case refine_2 => (intro wz hz; go_simp; with_reducible rfl)
   simp only [Act.put, xgT, xgS, xgZ, xsT, xsS, xsZ]
   refine wpAnyH_take (i := 6) (v := ?_) rfl (by kernel_rfl) (by kernel_rfl) (by kernel_rfl) (fun _ _ _ h => h) (Or.inl ⟨by rfl, ?_⟩) hS ?_
   case refine_2 => (intro wz hz; go_simp; with_reducible rfl)
   simp only [Act.put, xgT, xgS, xgZ, xsT, xsS, xsZ]
   refine wpAnyH_take (i := 7) (v := ?_) rfl (by kernel_rfl) (by kernel_rfl) (by kernel_rfl) (fun _ _ _ h => h) (Or.inl ⟨by rfl, ?_⟩) hS ?_
   case refine_2 => (intro wz hz; have h10 := (hz.1.cell 10).trans HC10.out; go_simp; with_reducible rfl)
   simp only [Act.put, xgT, xgS, xgZ, xsT, xsS, xsZ]
   refine wpAnyH_take (i := 8) (v := ?_) rfl (by kernel_rfl) (by kernel_rfl) (by kernel_rfl) (fun _ _ _ h => h) (Or.inl ⟨by rfl, ?_⟩) hS ?_
   case refine_2 => (intro wz hz; go_simp; with_reducible rfl)
   simp only [Act.put, xgT, xgS, xgZ, xsT, xsS, xsZ]
   refine anyH_oneR (i := 1) (by kernel_rfl) rfl rfl (fun H0 hH0 => ?_)
   simp only [xgT, xgS, xgZ]
   go_simp
   refine (HS.out w3 hS.2.1).mono ?_
   rintro e w4 ⟨rfl, hb4⟩
   have hS4 : BlkV w4 w.heap.size 37 cs ∧ PkRd w4 cs PK.val ∧ Below w.heap.size w w4 := ⟨hS.1.below hb4 hS.1.lt, hS.2.1.below hb4, hS.2.2.trans (hb4.mono hS.2.2.size)⟩
   refine hH0 _ _ hS4 ?_
   clear hH0 H0 hb4 hS
   refine wpAnyH_take (i := 5) (v := ?_) rfl (by kernel_rfl) (by kernel_rfl) (by kernel_rfl) (fun _ _ _ h => h) (Or.inl ⟨by rfl, ?_⟩) hS4 ?_
   case refine_2 => (intro wz hz; go_simp; with_reducible rfl)
   simp only [Act.put, xgT, xgS, xgZ, xsT, xsS, xsZ]
   refine wpAnyH_take (i := 9) (v := ?_) rfl (by kernel_rfl) (by kernel_rfl) (by kernel_rfl) (fun _ _ _ h => h) (Or.inl ⟨by rfl, ?_⟩) hS4 ?_
   case refine_2 => (intro wz hz; go_simp; with_reducible rfl)
   simp only [Act.put, xgT, xgS, xgZ, xsT, xsS, xsZ]
   refine wpAnyH_take (i := 10) (v := ?_) rfl (by kernel_rfl) (by kernel_rfl) (by kernel_rfl) (fun _ _ _ h => h) (Or.inl ⟨by rfl, ?_⟩) hS4 ?_
   case refine_2 => (intro wz hz; go_simp; with_reducible rfl)
   simp only [Act.put, xgT, xgS, xgZ, xsT, xsS, xsZ]
   refine wpAnyH_take (i := 11) (v := ?_) rfl (by kernel_rfl) (by kernel_rfl) (by kernel_rfl) (fun _ _ _ h => h) (Or.inl ⟨by rfl, ?_⟩) hS4 ?_
   case refine_2 => (intro wz hz; go_simp; with_reducible rfl)
   simp only [Act.put, xgT, xgS, xgZ, xsT, xsS, xsZ]
   refine wpAnyH_done (by kernel_rfl) ?_ _
   refine NoPanic.normal ?_
   go_wp2
   go_ret
   exact ⟨rfl, hS4.2.2⟩
 · go_enter Tryz.func46, Tryz.ntmps46
   go_wp2
   have hS : BlkV (w.alloc (.cells cs.toArray 37)).drew w.heap.size 37 cs ∧ PkRd (w.alloc (.cells cs.toArray 37)).drew cs PK.val ∧ Below w.heap.size w (w.alloc (.cells cs.toArray 37)).drew := ⟨HB.out, HP2.out.below ((Below.refl _ _).drew), HW.out.drew⟩
   clear k1 k5 k6 k7 k8 k9 ka
   refine wp_region_noPanic ?_
   refine wp_region_held (S := fun wz => BlkV wz w.heap.size 37 cs ∧ PkRd wz cs PK.val ∧ Below w.heap.size w wz) (by kernel_rfl) ?_
   change wpAnyH _ _ _ _ _ _ _ _ (World.drew _)
   generalize (w.alloc (.cells cs.toArray 37)).drew = w3 at hS ⊢
   refine wpAnyH_take (i := 0) (v := .agg cs.toArray) rfl (by kernel_rfl) (by kernel_rfl) (by kernel_rfl) (fun _ _ _ h => h) (Or.inl ⟨by rfl, fun wz hz => ?_⟩) hS ?_
   · exact run_ld 37 _ rfl w.heap.size 0 (by rfl) cs (hz.1.range 0 _ (fun i _ => by rw [Nat.zero_add])) (row11 hlen.out)
   simp only [Act.put, xgT, xgZ, xsT, xsS, xsZ]
   refine wpAnyH_take (i := 2) (v := ?_) rfl (by kernel_rfl) (by kernel_rfl) (by kernel_rfl) (fun _ _ _ h => h) (Or.inl ⟨by rfl, ?_⟩) hS ?_
   case refine_2 => (intro wz hz; go_simp; with_reducible rfl)
   simp only [Act.put, xgT, xgS, xgZ, xsT, xsS, xsZ]
   refine wpAnyH_take (i := 3) (v := ?_) rfl (by kernel_rfl) (by kernel_rfl) (by kernel_rfl) (fun _ _ _ h => h) (Or.inl ⟨by rfl, ?_⟩) hS ?_
   case refine_2 => (intro wz hz; have h9 := (hz.1.cell 9).trans HC9.out; go_simp; with_reducible rfl)
   simp only [Act.put, xgT, xgS, xgZ, xsT, xsS, xsZ]
   refine wpAnyH_take (i := 4) (v := ?_) rfl (by kernel_rfl) (by kernel_rfl) (by kernel_rfl) (fun _ _ _ h => h) (Or.inl ⟨by rfl, ?_⟩) hS ?_
   case refine_2 => (intro wz hz; go_simp; with_reducible rfl)
   simp only [Act.put, xgT, xgS, xgZ, xsT, xsS, xsZ]
   refine wpAnyH_take (i := 6) (v := ?_) rfl (by kernel_rfl) (by kernel_rfl) (by kernel_rfl) (fun _ _ _ h => h) (Or.inl ⟨by rfl, ?_⟩) hS ?_
   case refine_2 => (intro wz hz; go_simp; with_reducible rfl)
   simp only [Act.put, xgT, xgS, xgZ, xsT, xsS, xsZ]
   refine wpAnyH_take (i := 7) (v := ?_) rfl (by kernel_rfl) (by kernel_rfl) (by kernel_rfl) (fun _ _ _ h => h) (Or.inl ⟨by rfl, ?_⟩) hS ?_
   case refine_2 => (intro wz hz; have h10 := (hz.1.cell 10).trans HC10.out; go_simp; with_reducible rfl)
   simp only [Act.put, xgT, xgS, xgZ, xsT, xsS, xsZ]
   refine wpAnyH_take (i := 8) (v := ?_) rfl (by kernel_rfl) (by kernel_rfl) (by kernel_rfl) (fun _ _ _ h => h) (Or.inl ⟨by rfl, ?_⟩) hS ?_
   case refine_2 => (intro wz hz; go_simp; with_reducible rfl)
   simp only [Act.put, xgT, xgS, xgZ, xsT, xsS, xsZ]
   refine anyH_oneR (i := 1) (by kernel_rfl) rfl rfl (fun H0 hH0 => ?_)
   simp only [xgT, xgS, xgZ]
   go_simp
   refine (HS.out w3 hS.2.1).mono ?_
   rintro e w4 ⟨rfl, hb4⟩
   have hS4 : BlkV w4 w.heap.size 37 cs ∧ PkRd w4 cs PK.val ∧ Below w.heap.size w w4 := ⟨hS.1.below hb4 hS.1.lt, hS.2.1.below hb4, hS.2.2.trans (hb4.mono hS.2.2.size)⟩
   refine hH0 _ _ hS4 ?_
   clear hH0 H0 hb4 hS
   refine wpAnyH_take (i := 5) (v := ?_) rfl (by kernel_rfl) (by kernel_rfl) (by kernel_rfl) (fun _ _ _ h => h) (Or.inl ⟨by rfl, ?_⟩) hS4 ?_
   case refine_2 => (intro wz hz; go_simp; with_reducible rfl)
   simp only [Act.put, xgT, xgS, xgZ, xsT, xsS, xsZ]
   refine wpAnyH_take (i := 9) (v := ?_) rfl (by kernel_rfl) (by kernel_rfl) (by kernel_rfl) (fun _ _ _ h => h) (Or.inl ⟨by rfl, ?_⟩) hS4 ?_
   case refine_2 => (intro wz hz; go_simp; with_reducible rfl)
   simp only [Act.put, xgT, xgS, xgZ, xsT, xsS, xsZ]
   refine wpAnyH_take (i := 10) (v := ?_) rfl (by kernel_rfl) (by kernel_rfl) (by kernel_rfl) (fun _ _ _ h => h) (Or.inl ⟨by rfl, ?_⟩) hS4 ?_
   case refine_2 => (intro wz hz; go_simp; with_reducible rfl)
   simp only [Act.put, xgT, xgS, xgZ, xsT, xsS, xsZ]
   refine wpAnyH_take (i := 11) (v := ?_) rfl (by kernel_rfl) (by kernel_rfl) (by kernel_rfl) (fun _ _ _ h => h) (Or.inl ⟨by rfl, ?_⟩) hS4 ?_
   case refine_2 => (intro wz hz; go_simp; with_reducible rfl)
   simp only [Act.put, xgT, xgS, xgZ, xsT, xsS, xsZ]
   refine wpAnyH_done (by kernel_rfl) ?_ _
   refine NoPanic.normal ?_
   go_wp2
   go_ret
   exact ⟨rfl, hS4.2.2⟩

theorem may_yes (cs : List Value) (p : Pkt) (w : World) (h : PkRd w cs p) (hm : mayB p) (hp : p.pl.length ≤ 1000000) (hpd : p.pd < 256) :
 Calls Tryz.prog 46 #[.agg cs.toArray] w fun e w' => e = .returned (.bool true) ∧ Below w.heap.size w w' :=
 may_core cs p true w h hm.1 hm.2.1 hm.2.2.1 hm.2.2.2.1 hm.2.2.2.2.1 (by simpa using hm.2.2.2.2.2) hp hpd

set_option maxRecDepth 100000 in
set_option maxHeartbeats 1000000 in
theorem may_no (cs : List Value) (p : Pkt) (w : World) (h : PkRd w cs p) (hm : ¬ mayB p) (ho : p.ot.length ≤ 1000000) (hxt : p.xt.length ≤ 1000000) (hp : p.pl.length ≤ 1000000) (hpd : p.pd < 256) :
 Calls Tryz.prog 46 #[.agg cs.toArray] w fun e w' => e = .returned (.bool false) ∧ Below w.heap.size w w' := by
 by_cases c6 : p.ty ≤ 127 ∧ p.ot.length ≤ 15 ∧ (p.x = true ∨ (p.xt.length = 0 ∧ p.pf = 0)) ∧ p.xt.length % 4 = 0 ∧ p.xt.length ≤ 1020
 · obtain ⟨m1, m2, m3, m4, m5⟩ := c6
   exact may_core cs p false w h m1 m2 m3 m4 m5 (by
    rw [decide_eq_false_iff_not]
    exact fun h6 => hm ⟨m1, m2, m3, m4, m5, h6⟩) hp hpd
 obtain ⟨A1, a1, B1, b1, D1, d1, e1, u1, x1, y1⟩ := h
 obtain ⟨m, ty, sq, st, so, U, x, pf, X, Y, pd⟩ := p
 simp only at c6 ho hxt hp hpd e1
 have HW : Hid (Below w.heap.size w (w.alloc (.cells cs.toArray 37))) := Lib.hid ((Below.refl _ _).alloc (Nat.le_refl _) _)
 have hB := BlkV.new w 37 cs
 have k1 : (w.alloc (.cells cs.toArray 37)).cell? ⟨w.heap.size, 1, none⟩ = some (.int .u8 (ty : Int)) := by rw [hB.cell, e1]; rfl
 have k5 : (w.alloc (.cells cs.toArray 37)).cell? ⟨w.heap.size, 5, none⟩ = some (.slice A1 U.length a1) := by rw [hB.cell, e1]; rfl
 have k6 : (w.alloc (.cells cs.toArray 37)).cell? ⟨w.heap.size, 6, none⟩ = some (.bool x) := by rw [hB.cell, e1]; rfl
 have k7 : (w.alloc (.cells cs.toArray 37)).cell? ⟨w.heap.size, 7, none⟩ = some (.int .u16 (pf : Int)) := by rw [hB.cell, e1]; rfl
 have k8 : (w.alloc (.cells cs.toArray 37)).cell? ⟨w.heap.size, 8, none⟩ = some (.slice B1 X.length b1) := by rw [hB.cell, e1]; rfl
 obtain ⟨K, hK⟩ : ∃ K, K = U.length := ⟨_, rfl⟩
 obtain ⟨M, hM⟩ : ∃ M, M = X.length := ⟨_, rfl⟩
 rw [← hK] at ho k5 c6
 simp only [← hM] at hxt k8 c6
 clear e1 hB u1 x1 y1 hK hM hm
 have hway : 127 < ty ∨ (ty ≤ 127 ∧ 15 < K) ∨ (ty ≤ 127 ∧ K ≤ 15 ∧ x = false ∧ 0 < M) ∨ (ty ≤ 127 ∧ K ≤ 15 ∧ x = false ∧ M = 0 ∧ ((pf : Int) != 0) = true) ∨
  (ty ≤ 127 ∧ K ≤ 15 ∧ x = true ∧ ((M : Int) % 4 != 0) = true) ∨ (ty ≤ 127 ∧ K ≤ 15 ∧ x = true ∧ ((M : Int) % 4 != 0) = false ∧ 1020 < M) := by
  by_cases h1 : 127 < ty
  · exact .inl h1
  by_cases h2 : 15 < K
  · exact .inr (.inl ⟨by omega, h2⟩)
  cases hx : x
  · by_cases h3 : 0 < M
    · exact .inr (.inr (.inl ⟨by omega, by omega, rfl, h3⟩))
    · refine .inr (.inr (.inr (.inl ⟨by omega, by omega, rfl, by omega, ?_⟩)))
      have hM0 : M = 0 := by omega
      have : pf ≠ 0 := fun h => c6 ⟨by omega, by omega, .inr ⟨hM0, h⟩, by omega, by omega⟩
      simp; omega
  · by_cases h4 : M % 4 = 0
    · refine .inr (.inr (.inr (.inr (.inr ⟨by omega, by omega, rfl, by simp; omega, ?_⟩))))
      exact Nat.lt_of_not_le fun h5 => c6 ⟨by omega, by omega, .inl hx, h4, h5⟩
    · exact .inr (.inr (.inr (.inr (.inl ⟨by omega, by omega, rfl, by simp; omega⟩))))
 clear c6
 rcases hway with g1 | ⟨g1, g2⟩ | ⟨g1, g2, rfl, g3⟩ | ⟨g1, g2, rfl, rfl, g3⟩ | ⟨g1, g2, rfl, g3⟩ | ⟨g1, g2, rfl, g3, g4⟩
 · go_enter Tryz.func46, Tryz.ntmps46
   go_wp2
   go_ret
   exact ⟨rfl, HW.out⟩
 · go_enter Tryz.func46, Tryz.ntmps46
   go_wp2
   go_ret
   exact ⟨rfl, HW.out⟩
 · go_enter Tryz.func46, Tryz.ntmps46
   go_wp2
   go_ret
   exact ⟨rfl, HW.out⟩
 · go_enter Tryz.func46, Tryz.ntmps46
   go_wp2
   go_ret
   exact ⟨rfl, HW.out⟩
 · go_enter Tryz.func46, Tryz.ntmps46
   go_wp2
   go_ret
   exact ⟨rfl, HW.out⟩
 · go_enter Tryz.func46, Tryz.ntmps46
   go_wp2
   go_ret
   exact ⟨rfl, HW.out⟩

theorem or_small : ∀ b x : Bool, ∀ n < 16, ((128 ||| (if b then 32 else 0)) ||| (if x then 16 else 0)) ||| n = 128 + (if b then 32 else 0) + (if x then 16 else 0) + n := by decide +kernel
theorem first_or (b x : Bool) (n : Nat) (h : n ≤ 15) : bits BinOp.or IntKind.u64 (bits BinOp.or IntKind.u64 (bits BinOp.or IntKind.u64 128 (IntKind.u64.wrap ((bN b : Nat) * 32))) (IntKind.u64.wrap ((bN x : Nat) * 16))) (IntKind.u64.wrap (n : Int)) = ((128 + (if b then 32 else 0) + (if x then 16 else 0) + n : Nat) : Int) := by
 have h1 : IntKind.u64.wrap ((bN b : Nat) * 32) = ((if b then 32 else 0 : Nat) : Int) := by cases b <;> rfl
 have h2 : IntKind.u64.wrap ((bN x : Nat) * 16) = ((if x then 16 else 0 : Nat) : Int) := by cases x <;> rfl
 have h3 : IntKind.u64.wrap (n : Int) = (n : Int) := by rw [IntKind.wrap_u64]; omega
 have l1 : (if b then 32 else 0 : Nat) < 18446744073709551616 := by cases b <;> decide
 have l2 : (if x then 16 else 0 : Nat) < 18446744073709551616 := by cases x <;> decide
 have l3 : (128 ||| (if b then 32 else 0) : Nat) < 18446744073709551616 := by cases b <;> decide
 have l4 : ((128 ||| (if b then 32 else 0)) ||| (if x then 16 else 0) : Nat) < 18446744073709551616 := by cases b <;> cases x <;> decide
 rw [h1, h2, h3, show (128 : Int) = ((128 : Nat) : Int) by rfl, u64_or_nat _ _ (by omega) l1, u64_or_nat _ _ l3 l2, u64_or_nat _ _ l4 (by omega), or_small b x n (by omega)]
theorem or_second : ∀ b : Bool, ∀ n < 128, (if b then 128 else 0) ||| n = (if b then 128 else 0) + n := by decide +kernel
theorem second_or (b : Bool) (n : Nat) (h : n ≤ 127) : bits BinOp.or IntKind.u64 (IntKind.u64.wrap ((bN b : Nat) * 128)) (IntKind.u64.wrap (n : Int)) = (((if b then 128 else 0) + n : Nat) : Int) := by
 have h1 : IntKind.u64.wrap ((bN b : Nat) * 128) = ((if b then 128 else 0 : Nat) : Int) := by cases b <;> rfl
 have h3 : IntKind.u64.wrap (n : Int) = (n : Int) := by rw [IntKind.wrap_u64]; omega
 have l1 : (if b then 128 else 0 : Nat) < 18446744073709551616 := by cases b <;> decide
 rw [h1, h3, u64_or_nat _ _ l1 (by omega), or_second b n (by omega)]

theorem putW (w0 W : World) (A : Option Addr) (nb c : Nat) (bs : List UInt8) (m x : Nat) (mi : Int) (N : Nat) (hmi : mi = m) (hN : N = nb + m) (hb : Below w0.heap.size w0 W) (hr : RdS W A nb c bs) (h1 : 1 ≤ m) (h2 : m ≤ 8) (hx : x < 18446744073709551616) (hs : nb ≤ 1000000) :
 Calls Tryz.prog 47 #[.slice A nb c, .int .i64 mi, .int .u64 (x : Int)] W fun e w' => ∃ g, e = .returned (.slice (some ⟨g, 0, none⟩) N N) ∧ Blk w' g 5 (bs ++ beb m x) ∧ w0.heap.size ≤ g ∧ Below w0.heap.size w0 w' := by
 subst hmi; subst hN
 exact (put_some A nb c bs m x W hr h1 h2 hx (by omega)).mono fun e w' h => ⟨W.heap.size, h.1, h.2.1, hb.size, hb.trans (h.2.2.mono hb.size)⟩
theorem Blk.rdN {W : World} {g n : Nat} {bs : List UInt8} (h : Blk W g 5 bs) (hn : bs.length = n) (hm : n ≤ 1000000) : RdS W (some ⟨g, 0, none⟩) n n bs :=
 h.rd hn (Nat.le_refl _) (by simp only [maxLen]; omega)
theorem take_snocU {L : List Nat} {k : Nat} (h : k < L.length) : L.take (k + 1) = L.take k ++ [L.getD k 0] := by
 rw [List.take_succ_eq_append_getElem h]
 simp [List.getD, h]
theorem otB_snoc (L : List Nat) (x : Nat) : otB (L ++ [x]) = otB L ++ beb 4 x := by simp [otB]

set_option maxRecDepth 100000 in
set_option maxHeartbeats 1000000 in
theorem write_no (cs : List Value) (p : Pkt) (w : World) (h : PkRd w cs p) (hm : ¬ mayB p) (ho : p.ot.length ≤ 1000000) (hxt : p.xt.length ≤ 1000000) (hp : p.pl.length ≤ 1000000) (hpd : p.pd < 256) :
 Calls Tryz.prog 22 #[.agg cs.toArray] w fun e w' => e = .returned (.tuple #[.slice none 0 0, .int .i64 1]) ∧ Below w.heap.size w w' := by
 have HW : Hid (Below w.heap.size w (w.alloc (.cells cs.toArray 37))) := Lib.hid ((Below.refl _ _).alloc (Nat.le_refl _) _)
 have HB := Lib.hid (BlkV.new w 37 cs)
 have HM := Lib.hid (may_no cs p _ (h.below HW.out) hm ho hxt hp hpd)
 have hlen := Lib.hid h.len
 clear h hm
 go_enter Tryz.func22, Tryz.ntmps22
 go_wp2_with (first
  | (with_reducible refine wpList_ld rfl 37 (.tmp 1) rfl w.heap.size 0 rfl cs (HB.out.range 0 _ (fun i _ => by rw [Nat.zero_add])) (row11 hlen.out) ?_)
  | (go_at_call 46; ((with_reducible refine (Hid.out HM).mono ?_); rintro e w1 ⟨rfl, hb1⟩)))
 go_ret2
 exact ⟨rfl, HW.out.trans (hb1.mono (by simp))⟩

set_option maxRecDepth 100000 in
set_option maxHeartbeats 2000000 in
theorem write_own (cs : List Value) (p : Pkt) (w : World) (h : PkRd w cs p) (hm : mayB p) (hf : fits p) :
 Calls Tryz.prog 22 #[.agg cs.toArray] w fun e w' => ∃ A c, e = .returned (.tuple #[.slice A (wrB p).length c, .int .i64 0]) ∧ w'.ownsRow w.heap.size 5 1 (.slice A (wrB p).length c) (wrB p).length (cells (wrB p)) ∧ Below w.heap.size w w' := by
 have HW : Hid (Below w.heap.size w (w.alloc (.cells cs.toArray 37))) := Lib.hid ((Below.refl _ _).alloc (Nat.le_refl _) _)
 have HB := Lib.hid (BlkV.new w 37 cs)
 have hlen := Lib.hid h.len
 have HPR := Lib.hid (h.below HW.out)
 have HM := Lib.hid (may_yes cs p _ HPR.out hm (by have := hm.2.2.2.2.2; omega) hf.2.2.2.2.2)
 obtain ⟨A1, ca, B1, cb, D1, cd, e1, u1, x1, y1⟩ := HPR.out
 obtain ⟨w0, hw0⟩ : ∃ w0, w0 = w.alloc (.cells cs.toArray 37) := ⟨_, rfl⟩
 rw [← hw0] at u1 x1 y1
 have CR : Hid (∀ W, Below w0.heap.size w0 W → ∀ j, W.cell? ⟨w.heap.size, j, none⟩ = (rtpC p.m p.ty p.sq p.st p.so (.slice A1 p.ot.length ca) p.x p.pf (.slice B1 p.xt.length cb) (.slice D1 p.pl.length cd) p.pd)[j]?) := Lib.hid fun W hb j => by
  rw [← e1]
  subst hw0
  exact (HB.out.below hb HB.out.lt).cell j
 have HU := Lib.hid u1
 have HX := Lib.hid x1
 have HY := Lib.hid y1
 have HWM := Lib.hid hm
 have HWF := Lib.hid hf
 clear u1 x1 y1 hm hf e1 h
 go_enter Tryz.func22, Tryz.ntmps22
 go_wp2_with (first
  | (with_reducible refine wpList_ld rfl 37 (.tmp 1) rfl w.heap.size 0 rfl cs (HB.out.range 0 _ (fun i _ => by rw [Nat.zero_add])) (row11 hlen.out) ?_)
  | (go_at_call 46; ((with_reducible refine (Hid.out HM).mono ?_); rintro e w1 ⟨rfl, hb1⟩; have g1 : Hid (Below w0.heap.size w0 w1) := Lib.hid (by subst hw0; exact hb1); clear hb1)))
 have c10 : w1.cell? ⟨w.heap.size, 10, none⟩ = some (.int .u8 (p.pd : Int)) := (CR.out _ g1.out 10).trans rfl
 have c6 : w1.cell? ⟨w.heap.size, 6, none⟩ = some (.bool p.x) := (CR.out _ g1.out 6).trans rfl
 have c5 : w1.cell? ⟨w.heap.size, 5, none⟩ = some (.slice A1 p.ot.length ca) := (CR.out _ g1.out 5).trans rfl
 have m1 := HWM.out.1
 have m2 := HWM.out.2.1
 have m5 := HWM.out.2.2.2.2.1
 have m4 := HWM.out.2.2.2.1
 have m6 := HWM.out.2.2.2.2.2
 have mp : p.pl.length ≤ 1200 := by omega
 obtain ⟨F, hF⟩ : ∃ F, F = firstN p := ⟨_, rfl⟩
 obtain ⟨G, hG⟩ : ∃ G, G = secondN p := ⟨_, rfl⟩
 have lF : F < 18446744073709551616 := by rw [hF]; unfold firstN; split <;> split <;> omega
 have lG : G < 18446744073709551616 := by rw [hG]; unfold secondN; split <;> omega
 have eF : Hid (bits BinOp.or IntKind.u64 (bits BinOp.or IntKind.u64 (bits BinOp.or IntKind.u64 128 (IntKind.u64.wrap ((bN (decide (0 < p.pd)) : Nat) * 32))) (IntKind.u64.wrap ((bN p.x : Nat) * 16))) (IntKind.u64.wrap (p.ot.length : Int)) = (F : Int)) := Lib.hid (by
  rw [first_or _ _ _ m2, hF]; unfold firstN; by_cases h : 0 < p.pd <;> simp [h])
 have eG : Hid (bits BinOp.or IntKind.u64 (IntKind.u64.wrap ((bN p.m : Nat) * 128)) (IntKind.u64.wrap (p.ty : Int)) = (G : Int)) := Lib.hid (by
  rw [second_or _ _ m1, hG]; rfl)
 have HF_ := Lib.hid hF
 have HG_ := Lib.hid hG
 clear hF hG m6
 go_still_tail 16, (by kernel_rfl)
 still_call ((bit_any _ _).mono fun _ _ h => ⟨h.1, h.2.symm⟩)
 repeat still_step
 still_call ((bit_any _ _).mono fun _ _ h => ⟨h.1, h.2.symm⟩)
 repeat still_step
 refine wpStill_nil ?_
 rw [eF.out]
 change wpList _ _ _ _ _ w1.drew
 have b1 : Hid (Below w0.heap.size w0 w1.drew) := Lib.hid g1.out.drew
 clear c10 c6 c5
 generalize w1.drew = w1d at b1 ⊢
 go_wp2_with (first
  | (go_at_call 47; ((with_reducible refine (putW w0 _ none 0 0 [] 1 F _ 1 (by omega) (by omega) b1.out (RdS.nil _) (by omega) (by omega) lF (by omega)).mono ?_); rintro e w2 ⟨g2, rfl, hk, ha, hb⟩; have k2 : Hid (Blk w2 g2 5 (beb 1 F)) := Lib.hid hk; have b2 := Lib.hid hb; have c0 : w2.cell? ⟨w.heap.size, 0, none⟩ = some (.bool p.m) := (CR.out _ hb 0).trans rfl; have c1 : w2.cell? ⟨w.heap.size, 1, none⟩ = some (.int .u8 (p.ty : Int)) := (CR.out _ hb 1).trans rfl; clear hk hb ha)))
 go_still_tail 9, (by kernel_rfl)
 still_call ((bit_any _ _).mono fun _ _ h => ⟨h.1, h.2.symm⟩)
 repeat still_step
 refine wpStill_nil ?_
 rw [eG.out]
 change wpList _ _ _ _ _ w2.drew
 have b2d : Hid (Below w0.heap.size w0 w2.drew) := Lib.hid b2.out.drew
 have k2d : Hid (Blk w2.drew g2 5 (beb 1 F)) := Lib.hid k2.out
 clear c0 c1
 generalize w2.drew = w2d at b2d k2d ⊢
 have f1 := HWF.out.1
 have f2 := HWF.out.2.1
 have f3 := HWF.out.2.2.1
 have f5 := HWF.out.2.2.2.2.1
 have f6 := HWF.out.2.2.2.2.2
 have lsq : p.sq < 18446744073709551616 := by omega
 have l1 : Hid ((beb 1 F).length = 1) := Lib.hid (length_beb _ _)
 have l3 : Hid ((beb 1 F ++ beb 1 G).length = 2) := Lib.hid (by simp only [List.length_append, length_beb])
 have l4 : Hid (((beb 1 F ++ beb 1 G) ++ beb 2 p.sq).length = 4) := Lib.hid (by simp only [List.length_append, length_beb])
 have l5 : Hid ((((beb 1 F ++ beb 1 G) ++ beb 2 p.sq) ++ beb 4 p.st).length = 8) := Lib.hid (by simp only [List.length_append, length_beb])
 have l6 : Hid (((((beb 1 F ++ beb 1 G) ++ beb 2 p.sq) ++ beb 4 p.st) ++ beb 4 p.so).length = 12) := Lib.hid (by simp only [List.length_append, length_beb])
 have hH : Hid ((((beb 1 F ++ beb 1 G) ++ beb 2 p.sq) ++ beb 4 p.st) ++ beb 4 p.so = hdB p) := Lib.hid (by rw [HF_.out, HG_.out, beb_one, beb_one]; simp [hdB])
 go_wp2_with (first
  | (go_at_call 47; ((with_reducible refine (putW w0 _ (some ⟨g2, 0, none⟩) 1 1 (beb 1 F) 1 G _ 2 (by omega) (by omega) b2d.out (k2d.out.rdN l1.out (by omega)) (by omega) (by omega) (by omega) (by omega)).mono ?_); rintro e w3 ⟨g3, rfl, hk, ha, hb⟩; have k3 := Lib.hid hk; have b3 := Lib.hid hb; have a3 := Lib.hid ha; have c2 : w3.cell? ⟨w.heap.size, 2, none⟩ = some (.int .u16 (p.sq : Int)) := (CR.out _ hb 2).trans rfl; clear hk hb ha))
  | (go_at_call 47; ((with_reducible refine (putW w0 _ (some ⟨g3, 0, none⟩) 2 2 (beb 1 F ++ beb 1 G) 2 p.sq _ 4 (by omega) (by omega) b3.out (k3.out.rdN l3.out (by omega)) (by omega) (by omega) (by omega) (by omega)).mono ?_); rintro e w4 ⟨g4, rfl, hk, ha, hb⟩; have k4 := Lib.hid hk; have b4 := Lib.hid hb; have a4 := Lib.hid ha; have c3 : w4.cell? ⟨w.heap.size, 3, none⟩ = some (.int .u32 (p.st : Int)) := (CR.out _ hb 3).trans rfl; clear hk hb ha))
  | (go_at_call 47; ((with_reducible refine (putW w0 _ (some ⟨g4, 0, none⟩) 4 4 ((beb 1 F ++ beb 1 G) ++ beb 2 p.sq) 4 p.st _ 8 (by omega) (by omega) b4.out (k4.out.rdN l4.out (by omega)) (by omega) (by omega) (by omega) (by omega)).mono ?_); rintro e w5 ⟨g5, rfl, hk, ha, hb⟩; have k5 := Lib.hid hk; have b5 := Lib.hid hb; have a5 := Lib.hid ha; have c4 : w5.cell? ⟨w.heap.size, 4, none⟩ = some (.int .u32 (p.so : Int)) := (CR.out _ hb 4).trans rfl; clear hk hb ha))
  | (go_at_call 47; ((with_reducible refine (putW w0 _ (some ⟨g5, 0, none⟩) 8 8 (((beb 1 F ++ beb 1 G) ++ beb 2 p.sq) ++ beb 4 p.st) 4 p.so _ 12 (by omega) (by omega) b5.out (k5.out.rdN l5.out (by omega)) (by omega) (by omega) (by omega) (by omega)).mono ?_); rintro e w6 ⟨g6, rfl, hk, ha, hb⟩; have k6 := Lib.hid hk; have b6 := Lib.hid hb; have a6 := Lib.hid ha; have c5 : w6.cell? ⟨w.heap.size, 5, none⟩ = some (.slice A1 p.ot.length ca) := (CR.out _ hb 5).trans rfl; clear hk hb ha)))
 obtain ⟨H, hHe⟩ : ∃ H, H = (((beb 1 F ++ beb 1 G) ++ beb 2 p.sq) ++ beb 4 p.st) ++ beb 4 p.so := ⟨_, rfl⟩
 have lH : Hid (H.length = 12) := Lib.hid (by rw [hHe]; exact l6.out)
 have hHp : Hid (H = hdB p) := Lib.hid (by rw [hHe]; exact hH.out)
 rw [← hHe] at k6
 clear hHe hH l1 l3 l4 l5 l6 k2 k3 k4 k5 k2d b1 b2 b2d b3 b4 b5 a3 a4 a5 c2 c3 c4 eF eG
 have l0 := otB_len p.ot
 have HL0 := Lib.hid l0
 clear l0
 go_loopw [4, 6, 55] (fun b s i wr => ∃ (k g : Nat), k ≤ p.ot.length ∧ i = .int .i64 k ∧ b = .slice (some ⟨g, 0, none⟩) (12 + 4 * k) (12 + 4 * k) ∧ Hid (Blk wr g 5 (H ++ otB (p.ot.take k)) ∧ w0.heap.size ≤ g ∧ Below w0.heap.size w0 wr)) (fun _ _ i _ => p.ot.length - (intOf i).toNat)
 case atStart => exact ⟨0, g6, by omega, rfl, rfl, Lib.hid ⟨by rw [show H ++ otB (p.ot.take 0) = H by simp [otB]]; exact k6.out, a6.out, b6.out⟩⟩
 case round =>
  obtain ⟨k, g, hk, rfl, rfl, HL⟩ := hrel
  by_cases hkn : k < p.ot.length
  · obtain ⟨bU, oU, rfl, hlt, hcU⟩ := HU.out.2.2 (by omega)
    have hcell : wr.cell? ⟨bU, oU + k, none⟩ = some (.int .u32 ((p.ot.getD k 0 : Nat) : Int)) := (HL.out.2.2.cell (p := ⟨bU, oU + k, none⟩) hlt).trans (hcU k hkn)
    have hxl : p.ot.getD k 0 < 4294967296 := by
     have hm : p.ot.getD k 0 = p.ot[k] := by simp [List.getD, hkn]
     rw [hm]; exact HWF.out.2.2.2.1 _ (List.getElem_mem hkn)
    have hnew : Hid ((H ++ otB (p.ot.take k)) ++ beb 4 (p.ot.getD k 0) = H ++ otB (p.ot.take (k + 1))) := Lib.hid (by rw [take_snocU hkn, otB_snoc, List.append_assoc])
    have hll : Hid ((H ++ otB (p.ot.take k)).length = 12 + 4 * k) := Lib.hid (by rw [List.length_append, lH.out, otB_len, List.length_take]; omega)
    obtain ⟨x, hx⟩ : ∃ x, x = p.ot.getD k 0 := ⟨_, rfl⟩
    rw [← hx] at hcell hxl hnew
    clear hx hcU
    go_wp2_with (go_at_call 47; ((with_reducible refine (putW w0 _ (some ⟨g, 0, none⟩) (12 + 4 * k) (12 + 4 * k) (H ++ otB (p.ot.take k)) 4 x _ (12 + 4 * (k + 1)) (by omega) (by omega) HL.out.2.2 (HL.out.1.rdN hll.out (by omega)) (by omega) (by omega) (by omega) (by omega)).mono ?_); rintro e w7 ⟨g7, rfl, hk7, ha7, hb7⟩; have h7 := Lib.hid (show Blk w7 g7 5 (H ++ otB (p.ot.take (k + 1))) ∧ w0.heap.size ≤ g7 ∧ Below w0.heap.size w0 w7 from ⟨hnew.out ▸ hk7, ha7, hb7⟩); clear hk7 ha7 hb7))
    go_roundw
    case rel => exact ⟨k + 1, g7, by omega, by go_num, rfl, h7⟩
    case measure => simp [intOf]; omega
  · have hke : k = p.ot.length := by omega
    subst hke
    rw [List.take_length] at HL
    have h8 := Lib.hid HL.out.1
    have a8 := HL.out.2.1
    have b8 := Lib.hid HL.out.2.2
    clear HL
    obtain ⟨N, hN⟩ : ∃ N, N = 12 + 4 * p.ot.length := ⟨_, rfl⟩
    obtain ⟨T, hT⟩ : ∃ T, T = H ++ otB p.ot := ⟨_, rfl⟩
    have lT : Hid (T.length = N) := Lib.hid (by rw [hT, hN, List.length_append, lH.out, HL0.out])
    have hTp : Hid (T = hdB p ++ otB p.ot) := Lib.hid (by rw [hT, hHp.out])
    have lN : N ≤ 72 := by omega
    rw [← hT] at h8
    rw [← hN]
    clear hT hN c5
    obtain ⟨M4, hM4⟩ : ∃ M4, M4 = p.xt.length / 4 := ⟨_, rfl⟩
    have q4 : ((p.xt.length : Int) / 4) = (M4 : Int) := by omega
    have q5 : ((p.xt.length : Int).tdiv 4) = (M4 : Int) := by rw [Int.tdiv_eq_ediv_of_nonneg (by omega)]; omega
    have lM4 : M4 ≤ 255 := by omega
    have HM4 := Lib.hid hM4
    clear hM4
    have c6 : wr.cell? ⟨w.heap.size, 6, none⟩ = some (.bool p.x) := (CR.out _ b8.out 6).trans rfl
    have c7 : wr.cell? ⟨w.heap.size, 7, none⟩ = some (.int .u16 (p.pf : Int)) := (CR.out _ b8.out 7).trans rfl
    have c9 : wr.cell? ⟨w.heap.size, 9, none⟩ = some (.slice D1 p.pl.length cd) := (CR.out _ b8.out 9).trans rfl
    have o8 : Hid (wr.ownsRow w0.heap.size 5 1 (.slice (some ⟨g, 0, none⟩) N N) N (cells T)) := Lib.hid (h8.out.owns lT.out (by simp only [maxLen]; omega) a8)
    have hx : p.x = true ∨ p.x = false := by cases p.x <;> simp
    rcases hx with hx | hx
    · rw [hx] at c6
      have hfin : Hid (((((T ++ beb 2 p.pf) ++ beb 2 M4) ++ p.xt) ++ p.pl) ++ padB p.pd = wrB p) := Lib.hid (by rw [hTp.out, HM4.out]; simp [wrB, exBt, hx])
      clear hx
      go_wp2_with (first
       | (go_at_call 47; ((with_reducible refine (putW w0 _ (some ⟨g, 0, none⟩) N N T 2 p.pf _ (N + 2) (by omega) (by omega) b8.out (h8.out.rdN lT.out (by omega)) (by omega) (by omega) (by omega) (by omega)).mono ?_); rintro e w10 ⟨g10, rfl, hk, ha, hb⟩; have k10 := Lib.hid hk; have b10 := Lib.hid hb; have c8 : w10.cell? ⟨w.heap.size, 8, none⟩ = some (.slice B1 p.xt.length cb) := (CR.out _ hb 8).trans rfl; clear hk hb ha))
       | (go_at_call 47; ((with_reducible refine (putW w0 _ (some ⟨g10, 0, none⟩) (N + 2) (N + 2) (T ++ beb 2 p.pf) 2 M4 _ (N + 2 + 2) (by omega) (by omega) b10.out (k10.out.rdN (by rw [List.length_append, lT.out, length_beb]) (by omega)) (by omega) (by omega) (by omega) (by omega)).mono ?_); rintro e w11 ⟨g11, rfl, hk, ha, hb⟩; have b11 := Lib.hid hb; have o11 : Hid (w11.ownsRow w0.heap.size 5 1 (.slice (some ⟨g11, 0, none⟩) (N + 2 + 2) (N + 2 + 2)) (N + 2 + 2) (cells ((T ++ beb 2 p.pf) ++ beb 2 M4))) := Lib.hid (hk.owns (by rw [List.length_append, List.length_append, lT.out, length_beb, length_beb]) (by simp only [maxLen]; omega) ha); have c8 : w11.cell? ⟨w.heap.size, 8, none⟩ = some (.slice B1 p.xt.length cb) := (CR.out _ hb 8).trans rfl; clear hk hb ha))
       | (at_builtin; refine wpList_append_rd _ rfl (.tmp 78) (.tmp 80) rfl Tryz.underlying35 u8_info w0.heap.size (.slice (some ⟨g11, 0, none⟩) (N + 2 + 2) (N + 2 + 2)) (N + 2 + 2) ((T ++ beb 2 p.pf) ++ beb 2 M4) rfl o11.out B1 p.xt.length cb (p.xt) rfl (HX.out.below b11.out) (by omega) b11.out.size ?_; intro v12 w12 hown hg hat; obtain ⟨A12, q12, hv⟩ := own_form hown; subst hv; have b12 : Hid (Below w0.heap.size w0 w12) := Lib.hid (b11.out.grown hg b11.out.size (fun q hq => ((o11.out).lt q hq).1)); have o12 := Lib.hid hown; have c9 : w12.cell? ⟨w.heap.size, 9, none⟩ = some (.slice D1 p.pl.length cd) := (CR.out _ b12.out 9).trans rfl; clear hown hg hat)
       | (at_builtin; refine wpList_append_rd _ rfl (.tmp 82) (.tmp 84) rfl Tryz.underlying35 u8_info w0.heap.size (.slice A12 (N + 2 + 2 + p.xt.length) q12) (N + 2 + 2 + p.xt.length) (((T ++ beb 2 p.pf) ++ beb 2 M4) ++ p.xt) rfl o12.out D1 p.pl.length cd (p.pl) rfl (HY.out.below b12.out) (by omega) b12.out.size ?_; intro v20 w20 hown hg hat; obtain ⟨A20, q20, hv⟩ := own_form hown; subst hv; have b20 : Hid (Below w0.heap.size w0 w20) := Lib.hid (b12.out.grown hg b12.out.size (fun q hq => ((o12.out).lt q hq).1)); have o20 := Lib.hid hown; have c10 : w20.cell? ⟨w.heap.size, 10, none⟩ = some (.int .u8 (p.pd : Int)) := (CR.out _ b20.out 10).trans rfl; clear hown hg hat)
       | (go_at_call 49; ((with_reducible refine (padding_any p.pd _ f6).mono ?_); rintro e w21 ⟨A21, q21, rfl, hr21, hb21⟩; have r21 := Lib.hid hr21; have o21 := Lib.hid (own_belowR o20.out hb21); have b21 := Lib.hid (b20.out.trans (hb21.mono b20.out.size)); clear hr21 hb21))
       | (at_builtin; refine wpList_append_rd _ rfl (.tmp 86) (.tmp 89) rfl Tryz.underlying35 u8_info w0.heap.size (.slice A20 (N + 2 + 2 + p.xt.length + p.pl.length) q20) (N + 2 + 2 + p.xt.length + p.pl.length) ((((T ++ beb 2 p.pf) ++ beb 2 M4) ++ p.xt) ++ p.pl) rfl o21.out A21 p.pd q21 (padB p.pd) rfl r21.out (by omega) b21.out.size ?_; intro v22 w22 hown hg hat; obtain ⟨A22, q22, hv⟩ := own_form hown; subst hv; have b22 : Hid (Below w0.heap.size w0 w22) := Lib.hid (b21.out.grown hg b21.out.size (fun q hq => ((o21.out).lt q hq).1)); have o22 := Lib.hid hown; clear hown hg hat))
      go_ret2
      have ho := o22.out
      rw [hfin.out] at ho
      have hn := (RdS.of_own ho).len
      refine ⟨A22, q22, ?_, ?_, (HW.out.mono (Nat.le_refl _)).trans ?_⟩
      · rw [hn]; rfl
      · rw [hn]; exact own_mono ho (by rw [hw0]; simp)
      · rw [← hw0]; exact b22.out.mono (by rw [hw0]; simp)
    · rw [hx] at c6
      have hfin : Hid ((T ++ p.pl) ++ padB p.pd = wrB p) := Lib.hid (by rw [hTp.out]; simp [wrB, exBt, hx])
      clear hx
      go_wp2_with (first
       | (at_builtin; refine wpList_append_rd _ rfl (.tmp 82) (.tmp 84) rfl Tryz.underlying35 u8_info w0.heap.size (.slice (some ⟨g, 0, none⟩) N N) (N) (T) rfl o8.out D1 p.pl.length cd (p.pl) rfl (HY.out.below b8.out) (by omega) b8.out.size ?_; intro v20 w20 hown hg hat; obtain ⟨A20, q20, hv⟩ := own_form hown; subst hv; have b20 : Hid (Below w0.heap.size w0 w20) := Lib.hid (b8.out.grown hg b8.out.size (fun q hq => ((o8.out).lt q hq).1)); have o20 := Lib.hid hown; have c10 : w20.cell? ⟨w.heap.size, 10, none⟩ = some (.int .u8 (p.pd : Int)) := (CR.out _ b20.out 10).trans rfl; clear hown hg hat)
       | (go_at_call 49; ((with_reducible refine (padding_any p.pd _ f6).mono ?_); rintro e w21 ⟨A21, q21, rfl, hr21, hb21⟩; have r21 := Lib.hid hr21; have o21 := Lib.hid (own_belowR o20.out hb21); have b21 := Lib.hid (b20.out.trans (hb21.mono b20.out.size)); clear hr21 hb21))
       | (at_builtin; refine wpList_append_rd _ rfl (.tmp 86) (.tmp 89) rfl Tryz.underlying35 u8_info w0.heap.size (.slice A20 (N + p.pl.length) q20) (N + p.pl.length) ((T) ++ p.pl) rfl o21.out A21 p.pd q21 (padB p.pd) rfl r21.out (by omega) b21.out.size ?_; intro v22 w22 hown hg hat; obtain ⟨A22, q22, hv⟩ := own_form hown; subst hv; have b22 : Hid (Below w0.heap.size w0 w22) := Lib.hid (b21.out.grown hg b21.out.size (fun q hq => ((o21.out).lt q hq).1)); have o22 := Lib.hid hown; clear hown hg hat))
      go_ret2
      have ho := o22.out
      rw [hfin.out] at ho
      have hn := (RdS.of_own ho).len
      refine ⟨A22, q22, ?_, ?_, (HW.out.mono (Nat.le_refl _)).trans ?_⟩
      · rw [hn]; rfl
      · rw [hn]; exact own_mono ho (by rw [hw0]; simp)
      · rw [← hw0]; exact b22.out.mono (by rw [hw0]; simp)
end Go.Proofs.YtmkeioeodlidgaaGreatDoor
