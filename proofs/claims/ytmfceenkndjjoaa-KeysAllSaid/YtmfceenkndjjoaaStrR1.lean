/- Contracts of the document's answer of layer 6: a counter further, the first counter. No statement is proved here. -/
import Derived.Test.YtmfceenkndjjoaaStr4
import Derived.Test.YtmfceenkndjjoaaOctRef
import Derived.Test.YtmfceenkndjjoaaAesR4
import Derived.Test.YtmfceenkndjjoaaAesR3
namespace Go.Proofs.Ytmfceenkndjjoaa
open Go.RowKit
set_option linter.unusedVariables false

/-- A whole cipher of the document's, as its Block reads it. -/
theorem NW.ciphS {w0 : World} {key : List UInt8} {p gB : Nat} {vW : Value} {vs : List Value} {w : World} (h : NW w0 key p gB 44 vW vs w) : ∃ gW cW, RCiph w p gB gW cW key := by
  obtain ⟨gW, cW, hv, _, hgl⟩ := h.own.form (by omega)
  subst hv
  refine ⟨gW, cW, (h.hp.cell 0).trans rfl, (h.hp.cell 1).trans rfl, h.hp.lt, h.hB.lt, hgl, fun i hi => h.hB.cell (by rw [boxT_len]; exact hi), fun j hj => ?_⟩
  obtain ⟨b, o, c, h1, _, h3, _, h5⟩ := h.rows j hj
  exact ⟨b, o, c, (h.own.cellAt j (by omega)).trans h1, h3, h5⟩
theorem rnewS_any (key : List UInt8) (w : World) (hk : key.length = 16) :
    Calls Try.prog 15 #[.agg (cells key).toArray] w fun e w' => ∃ p gB gW cW, e = .returned (.pointer (some ⟨p, 0, none⟩)) ∧ RCiph w' p gB gW cW key ∧ Below w.heap.size w w' :=
  (rnew_any key w hk).mono fun _ _ ⟨p, gB, _, _, he, h⟩ => by
    obtain ⟨gW, cW, hc⟩ := h.ciphS
    exact ⟨p, gB, gW, cW, he, hc, h.b⟩

set_option maxRecDepth 100000 in
set_option maxHeartbeats 1000000 in
theorem rplus_any (c : List UInt8) (n : Nat) (w : World) (hc : c.length = 16) (hn : n ≤ 1152921504606846976) :
    Calls Try.prog 17 #[.agg (cells c).toArray, .int .i64 (n : Int)] w fun e w' => e = .returned (.agg (cells (plusC c n)).toArray) ∧ Below w.heap.size w w' := by
  have hz := zero16
  obtain ⟨hb0, h0, h1, _⟩ := block_base w c
  have hZL : (cells Z16).length = 16 := by rw [length_cells, Z16_len]
  have HZL := Lib.hid hZL
  have hPL : (cells (plusC c n)).length = 16 := by rw [length_cells, plusC_len]
  have HPL := Lib.hid hPL
  have h0' : Blk ((w.alloc (Obj.cells (cells c).toArray 22)).alloc (Obj.cells (cells Z16).toArray 22)) w.heap.size 22 (plR c n 0) := by rw [plR_zero c n hc]; exact h0
  have hN := (plN_zero c n hc).symm
  have HN := Lib.hid hN
  have HC := Lib.hid hc
  clear h0 hc hZL hPL hN
  go_enter Try.func17, Try.ntmps17
  go_wp2
  go_loopw [1, 5] (fun vn vi wr => ∃ k J m : Nat, Hid (J + k = 16) ∧ vi = .int .i64 ((J : Int) - 1) ∧ vn = .int .i64 (m : Int) ∧ m ≤ n + 1 ∧ Hid (m = plN c n k) ∧ Blk wr w.heap.size 22 (plR c n k) ∧ Blk wr (w.heap.size + 1) 22 Z16 ∧ Below w.heap.size w wr) (fun _ i _ => (intOf i + 1).toNat)
  case atStart => exact ⟨0, 16, n, Lib.hid rfl, rfl, rfl, by omega, HN, h0', h1, hb0⟩
  case round =>
    clear h0' HN h1 hb0
    obtain ⟨k, J, m, HJ, rfl, rfl, hm, HM, h2, h1, hb⟩ := hrel
    rcases Nat.eq_zero_or_pos J with h | h
    · subst h
      have hk : k = 16 := by have := HJ.out; omega
      subst hk
      rw [plR_all c n] at h2
      clear HM
      go_wp2_with (first
        | (with_reducible refine wpList_ld rfl 22 (.tmp 2) rfl w.heap.size 0 rfl (cells (plusC c n)) (h2.v.range 0 _ (by simp)) (row16 HPL.out) ?_)
        | ((with_reducible refine wpList_st rfl 22 (.tmp 4) (.tmp 23) rfl (w.heap.size + 1) 0 (cells (plusC c n)) rfl rfl 22 _ h1.v (by rw [HPL.out, HZL.out]; omega) (row16 HPL.out) (cells_one _) ?_); intro w2 hB2 ho2; rw [splice_all _ _ (by rw [HPL.out, HZL.out])] at hB2))
      exact ret_row (by rfl) (by rfl) hB2 (row16 HPL.out) (by rfl) ⟨rfl, hb.trans (ho2.below (by omega))⟩
    · obtain ⟨j, rfl⟩ : ∃ j, J = j + 1 := ⟨J - 1, by omega⟩
      have hjk : 15 - k = j := by have := HJ.out; omega
      have hk16 : k < 16 := by have := HJ.out; omega
      have hj16 : j < 16 := by omega
      have hcell := h2.cell (j := j) (by rw [plR_len c n k HC.out (by omega)]; exact hj16)
      have hget := plR_get c n k HC.out hk16
      rw [hjk] at hget
      rw [hget] at hcell
      have hfr := h2.frozen j
      rw [down1 j]
      have hyl := (c.getD j 0).toNat_lt
      obtain ⟨m2, hm2⟩ : ∃ m2, m2 = m + (c.getD j 0).toNat := ⟨_, rfl⟩
      have hsucc := plN_succ c n k HC.out hk16
      rw [hjk, ← HM.out, ← hm2] at hsucc
      have hst := h2.set_ j (UInt8.ofNat m2)
      have hset := plR_set c n k HC.out hk16 (UInt8.ofNat m2) (by rw [hjk, ← HM.out, ← hm2])
      rw [hjk] at hset
      rw [hset] at hst
      have hby := byte_mod m2
      have h1s := h1.far (p := ⟨w.heap.size, j, none⟩) (by simp) (.int .u8 ((UInt8.ofNat m2).toNat : Int))
      have hbs := hb.setCell (p := ⟨w.heap.size, j, none⟩) (by simp) (.int .u8 ((UInt8.ofNat m2).toNat : Int))
      obtain ⟨y, hy⟩ : ∃ y : Int, y = ((c.getD j 0).toNat : Int) := ⟨_, rfl⟩
      rw [← hy] at hcell
      obtain ⟨v, hv⟩ : ∃ v : Int, v = ((UInt8.ofNat m2).toNat : Int) := ⟨_, rfl⟩
      rw [← hv] at hst h1s hbs hby
      have hvl : v < 256 ∧ 0 ≤ v := by omega
      obtain ⟨m3, hm3⟩ : ∃ m3, m3 = m2 / 256 := ⟨_, rfl⟩
      rw [← hm3] at hsucc
      have e0 : IntKind.i64.wrap y = y := IntWalk.i64_in _ (by omega)
      have e1 : IntKind.i64.wrap ((m : Int) + y) = (m2 : Int) := by rw [show (m : Int) + y = (m2 : Int) by omega]; exact IntWalk.i64_in _ (by omega)
      have e2 : (m2 : Int).tmod 256 = v := by rw [Int.tmod_eq_emod_of_nonneg (by omega)]; exact hby
      have e3 : IntKind.i64.wrap v = v := IntWalk.i64_in _ (by omega)
      have e4 : IntKind.u8.wrap v = v := by rw [IntKind.wrap_u8]; omega
      have e5 : (m2 : Int).tdiv 256 = (m3 : Int) := by rw [Int.tdiv_eq_ediv_of_nonneg (by omega)]; omega
      have e6 : IntKind.i64.wrap (m3 : Int) = (m3 : Int) := IntWalk.i64_in _ (by omega)
      have hm4 : m3 ≤ n + 1 := by omega
      have HJ2 : Hid (j + (k + 1) = 16) := Lib.hid (by have := HJ.out; omega)
      have HS := Lib.hid hsucc.symm
      clear hy hv hm2 hm3 hget hset hby hyl hsucc h2 HM hm hvl
      go_wp2
      go_roundw
      case rel => exact ⟨k + 1, j, m3, HJ2, by go_num, by go_num, hm4, Lib.hid HS.out.symm, hst, h1s, hbs⟩
      case measure => simp [intOf]
end Go.Proofs.Ytmfceenkndjjoaa
