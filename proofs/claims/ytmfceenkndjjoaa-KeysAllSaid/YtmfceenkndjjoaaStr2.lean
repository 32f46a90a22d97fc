/- Contracts of package stream: a stream under way, and its next block. No statement is proved here. -/
import Derived.Test.YtmfceenkndjjoaaStr1
namespace Go.Proofs.Ytmfceenkndjjoaa
open Go.RowKit
set_option linter.unusedVariables false

/-- A stream under way, k blocks of which have been told: what the closure has captured, and the cipher; all of it from block B on. -/
structure SEnv (B : Nat) (key c : List UInt8) (k q r p : Nat) (wr : World) : Prop where
  hq : BlkV wr q 45 [.pointer (some ⟨p, 0, none⟩)]
  hr : Blk wr r 22 (plusC c k)
  hp : BlkV wr p 57 (ciph (kall key))
  rq : r ≠ q
  rp : r ≠ p
  lq : B ≤ q
  lr : B ≤ r
  lp : B ≤ p
section
variable {B : Nat} {key c : List UInt8} {k q r p : Nat} {wr w' : World}
theorem SEnv.only (h : SEnv B key c k q r p wr) {g : Nat} (ho : Only g wr w') (h1 : q ≠ g) (h2 : r ≠ g) (h3 : p ≠ g) : SEnv B key c k q r p w' := ⟨h.hq.only ho h1, Blk.only h.hr ho h2, h.hp.only ho h3, h.rq, h.rp, h.lq, h.lr, h.lp⟩
theorem SEnv.onlyLow (h : SEnv B key c k q r p wr) {g : Nat} (ho : Only g wr w') (hg : g < B) : SEnv B key c k q r p w' := h.only ho (by have := h.lq; omega) (by have := h.lr; omega) (by have := h.lp; omega)
theorem SEnv.below (h : SEnv B key c k q r p wr) (hb : Below wr.heap.size wr w') : SEnv B key c k q r p w' := ⟨h.hq.below hb h.hq.lt, h.hr.below hb h.hr.lt, h.hp.below hb h.hp.lt, h.rq, h.rp, h.lq, h.lr, h.lp⟩
theorem SEnv.alloc (h : SEnv B key c k q r p wr) (o : Obj) : SEnv B key c k q r p (wr.alloc o) := h.below ((Below.refl _ _).alloc (Nat.le_refl _) _)
theorem SEnv.drew (h : SEnv B key c k q r p wr) : SEnv B key c k q r p wr.drew := h.below ((Below.refl _ _).drew)
end

theorem grown_only {w w1 w2 : World} {g r : Nat} (h : w.grownBy w1 (some r)) (ho : Only g w1 w2) (hg : g = r ∨ w.heap.size ≤ g) : w.grownBy w2 (some r) :=
  ⟨ho.os.trans h.os, ho.tape.trans h.tape, ho.output.trans h.output, by rw [ho.size]; exact h.size, fun i hi hne => (ho.block i (by
    intro e
    subst e
    rcases hg with hg | hg
    · exact hne (by rw [hg])
    · omega)).trans (h.block i hi hne)⟩
theorem grown_more {w w1 w2 : World} {row : Option Nat} (h : w.grownBy w1 row) (hb : Below w1.heap.size w1 w2) : w.grownBy w2 row := h.trans (grown_of_below hb row)

set_option maxRecDepth 100000 in
set_option maxHeartbeats 1000000 in
theorem blocks_any (key c : List UInt8) (w : World) (hk : key.length = 16) (hc : c.length = 16) :
    Calls Try.prog 14 #[.agg (cells key).toArray, .agg (cells c).toArray] w fun e w' => ∃ q r p, e = .returned (.func (.func 20) #[] #[.pointer (some ⟨q, 0, none⟩), .pointer (some ⟨r, 0, none⟩)]) ∧ SEnv w.heap.size key c 0 q r p w' ∧ Below w.heap.size w w' := by
  have hmf : ∀ (fn : Fn) (first cap : Array Value) (w : World), (Instr.makeFunc fn first cap).run Try.prog w = .ok (.func fn first cap) w := fun _ _ _ _ => rfl
  have hb0 : Below w.heap.size w ((w.alloc (Obj.cells (cells key).toArray 22)).alloc (Obj.cells (cells c).toArray 22)) := ((Below.refl _ _).alloc (Nat.le_refl _) _).alloc (by simp) _
  have h0 : Blk ((w.alloc (Obj.cells (cells key).toArray 22)).alloc (Obj.cells (cells c).toArray 22)) w.heap.size 22 key := (Blk.new _ _ _).alloc _
  have h1 : Blk ((w.alloc (Obj.cells (cells key).toArray 22)).alloc (Obj.cells (cells c).toArray 22)) (w.heap.size + 1) 22 (plusC c 0) := by rw [plusC_zero c hc]; exact Blk.new_at _ _ _ _ _ (by simp) rfl
  clear hc
  have HKL : Hid ((cells key).length = 16) := Lib.hid (by rw [length_cells, hk])
  have hn := fun wx => new_any key wx hk
  have HN := Lib.hid hn
  clear hk hn
  go_enter Try.func14, Try.ntmps14
  go_wp2_with (first
    | (with_reducible refine wpList_ld rfl 22 (.tmp 2) rfl w.heap.size 0 rfl (cells key) (h0.v.range 0 _ (by simp)) (row16 HKL.out) ?_)
    | (go_at_call 19; ((with_reducible refine (HN.out _).mono ?_); rintro e w2 ⟨p, rfl, hp, hc2, hb2⟩)))
  go_ret
  have hsz := h1.lt
  have h12 := h1.below hb2 hsz
  have hb2w := hb0.trans (hb2.mono hb0.size)
  have hls := hb2.size
  have hs0 := hb0.size
  have hpl := hc2.lt
  have hrl := h12.lt
  exact ⟨w2.heap.size, w.heap.size + 1, p, rfl, ⟨BlkV.new w2 45 [.pointer (some ⟨p, 0, none⟩)], h12.alloc _, hc2.alloc _, by omega, by omega, by omega, by omega, by omega⟩, hb2w.alloc (by omega) _⟩

set_option maxRecDepth 100000 in
set_option maxHeartbeats 1000000 in
theorem tell_any (B : Nat) (key c : List UInt8) (k q r p : Nat) (w : World) (hk : key.length = 16) (h : SEnv B key c k q r p w) :
    Calls Try.prog 20 #[.pointer (some ⟨q, 0, none⟩), .pointer (some ⟨r, 0, none⟩)] w fun e w' => e = .returned (.agg (cells (enc (kall key) (plusC c k))).toArray) ∧ SEnv B key c (k + 1) q r p w' ∧ w.grownBy w' (some r) := by
  have hz := zero16
  obtain ⟨C, hC⟩ : ∃ C, C = plusC c k := ⟨_, rfl⟩
  have hCl : C.length = 16 := by rw [hC]; exact plusC_len _ _
  have hD : plusC C 1 = plusC c (k + 1) := by rw [hC]; exact plusC_plus _ _ _
  obtain ⟨D, hDe⟩ : ∃ D, D = plusC c (k + 1) := ⟨_, rfl⟩
  rw [← hDe] at hD
  obtain ⟨X, hX⟩ : ∃ X, X = enc (kall key) C := ⟨_, rfl⟩
  have hbk := fun wx (hx : BlkV wx p 57 (ciph (kall key))) => block_some p _ (kall key) C wx hCl (kall_len key hk) hx
  have hnx := fun wx => next_any C wx hCl
  simp only [← hX] at hbk
  simp only [hD] at hnx
  rw [← hC, ← hX]
  have hXL : (cells X).length = 16 := by rw [length_cells, hX, enc_len]
  have hCL : (cells C).length = 16 := by rw [length_cells, hCl]
  have hDL : (cells D).length = 16 := by rw [length_cells, hDe, plusC_len]
  have hZL : (cells Z16).length = 16 := by rw [length_cells, Z16_len]
  have HXL := Lib.hid hXL
  have HCL := Lib.hid hCL
  have HDL := Lib.hid hDL
  have HZL := Lib.hid hZL
  have HBK := Lib.hid hbk
  have HNX := Lib.hid hnx
  have HC := Lib.hid hC
  have HDE := Lib.hid hDe
  have hrl := h.hr.lt
  have hql := h.hq.lt
  have hpl := h.hp.lt
  have hrq := h.rq
  have hrp := h.rp
  have h1 := h.alloc (.cells (cells Z16).toArray 22)
  have hR : Blk (w.alloc (.cells (cells Z16).toArray 22)) w.heap.size 22 Z16 := Blk.new _ _ _
  have hg1 : w.grownBy (w.alloc (.cells (cells Z16).toArray 22)) (some r) := grown_of_below ((Below.refl _ _).alloc (Nat.le_refl _) _) _
  have hqc := h1.hq.cell 0
  have hqc' : (w.alloc (.cells (cells Z16).toArray 22)).cell? ⟨q, 0, none⟩ = some (.pointer (some ⟨p, 0, none⟩)) := hqc
  have hr1 : Blk (w.alloc (.cells (cells Z16).toArray 22)) r 22 C := by rw [HC.out]; exact h1.hr
  clear hk hCl hD hX hXL hCL hDL hZL hbk hnx hqc hC hDe
  have hp1 := h1.hp
  have hq1 := h1.hq
  have H := Lib.hid h
  clear h1 h
  go_enter Try.func20, Try.ntmps20
  go_wp2_with (first
    | (with_reducible refine wpList_ld rfl 22 (.tmp 1) rfl r 0 rfl (cells C) (hr1.v.range 0 _ (by simp)) (row16 HCL.out) ?_)
    | (go_at_call 21; ((with_reducible refine (HBK.out _ hp1).mono ?_); rintro e w2 ⟨rfl, hb2⟩; have hr2 := (hr1.below hb2 hr1.lt).alloc (.cells (cells Z16).toArray 22); have hq2 := (hq1.below hb2 hq1.lt).alloc (.cells (cells Z16).toArray 22); have hp2 := (hp1.below hb2 hp1.lt).alloc (.cells (cells Z16).toArray 22); have hR2 := (hR.below hb2 hR.lt).alloc (.cells (cells Z16).toArray 22); have hx2 := BlkV.new w2 22 (cells Z16); have hls := (hR.below hb2 hR.lt).lt; have hg2 := grown_more (grown_more hg1 hb2) ((Below.refl w2.heap.size w2).alloc (Nat.le_refl _) (.cells (cells Z16).toArray 22))))
    | ((with_reducible refine wpList_st rfl 22 (.tmp 3) (.tmp 6) rfl w2.heap.size 0 (cells X) rfl rfl 22 _ hx2 (by rw [HXL.out, HZL.out]; omega) (row16 HXL.out) (cells_one _) ?_); intro w3 hB3 ho3; rw [splice_all _ _ (by rw [HXL.out, HZL.out])] at hB3; have hr3 := Blk.only hr2 ho3 (by omega); have hq3 := hq2.only ho3 (by omega); have hp3 := hp2.only ho3 (by omega); have hR3 := Blk.only hR2 ho3 (by omega))
    | (with_reducible refine wpList_ld rfl 22 (.tmp 1) rfl r 0 rfl (cells C) (hr3.v.range 0 _ (by simp)) (row16 HCL.out) ?_)
    | (go_at_call 22; ((with_reducible refine (HNX.out w3).mono ?_); rintro e w4 ⟨rfl, hb4⟩; have hr4 := hr3.below hb4 hr3.lt; have hq4 := hq3.below hb4 hq3.lt; have hp4 := hp3.below hb4 hp3.lt; have hR4 := hR3.below hb4 hR3.lt; have hx4 := hB3.below hb4 hB3.lt))
    | ((with_reducible refine wpList_st rfl 22 (.tmp 1) (.tmp 8) rfl r 0 (cells D) rfl rfl 22 _ hr4.v (by rw [HDL.out, HCL.out]; omega) (row16 HDL.out) (cells_one _) ?_); intro w5 hB5 ho5; rw [splice_all _ _ (by rw [HDL.out, HCL.out])] at hB5; have hq5 := hq4.only ho5 (by omega); have hp5 := hp4.only ho5 (by omega); have hR5 := Blk.only hR4 ho5 (by omega); have hx5 := hx4.only ho5 (by omega))
    | (with_reducible refine wpList_ld rfl 22 (.tmp 3) rfl w2.heap.size 0 rfl (cells X) (hx5.range 0 _ (by simp)) (row16 HXL.out) ?_)
    | ((with_reducible refine wpList_st rfl 22 (.tmp 2) (.tmp 9) rfl w.heap.size 0 (cells X) rfl rfl 22 _ hR5.v (by rw [HXL.out, HZL.out]; omega) (row16 HXL.out) (cells_one _) ?_); intro w6 hB6 ho6; rw [splice_all _ _ (by rw [HXL.out, HZL.out])] at hB6))
  have hs := H.out
  have hD5 : Blk w5 r 22 D := hB5
  rw [HDE.out] at hD5
  have hg6 := grown_only (grown_only (grown_more (grown_only hg2 ho3 (.inr (by omega))) hb4) ho5 (.inl rfl)) ho6 (.inr (Nat.le_refl _))
  exact ret_row (by rfl) (by rfl) hB6 (row16 HXL.out) (by rfl) ⟨rfl, ⟨hq5.only ho6 (by omega), Blk.only hD5 ho6 (by omega), hp5.only ho6 (by omega), hs.rq, hs.rp, hs.lq, hs.lr, hs.lp⟩, hg6⟩
end Go.Proofs.Ytmfceenkndjjoaa
