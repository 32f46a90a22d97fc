/- Several texts in one: Contracts of package rtcp: a rate, and what the other bodies are. Contracts of package rtcp: the bodies that are laid in parts. Contracts of package rtcp: a packet of each other kind, by the contract of its body. Contracts of package rtcp: a packet of each other kind, by the contract of its body. Contracts of package rtcp: what is written of a packet that may be is read as that packet. No statement is proved here. -/
import Derived.Test.YtacaempcbdekaaaDoorZD
import Derived.Test.YtacaempcbdekaaaDoorZE
namespace Go.Proofs.YtacaempcbdekaaaDoor
open Go.RowKit
set_option linter.unusedVariables false

theorem rate_fit (m e : Nat) (hm : m < 262144) (he : e < 64) (hr : m * 2 ^ e < 9223372036854775808) : e + Lib.bitLen m < 64 := by
  by_cases h0 : 0 < m
  · obtain ⟨h1, h2⟩ := (bitLen_spec m (by omega)).2 h0
    obtain ⟨L, hL⟩ : ∃ L, Lib.bitLen m = L + 1 := ⟨Lib.bitLen m - 1, by omega⟩
    rw [hL, Nat.add_sub_cancel] at h1
    rw [hL]
    by_cases h3 : e + L < 63
    · omega
    · have h4 : (2 : Nat) ^ 63 ≤ 2 ^ (L + e) := Nat.pow_le_pow_right (by omega) (by omega)
      rw [Nat.pow_add] at h4
      have h5 : 2 ^ L * 2 ^ e ≤ m * 2 ^ e := Nat.mul_le_mul_right _ h1
      have h6 : (2 : Nat) ^ 63 = 9223372036854775808 := by decide
      omega
  · have h1 : m = 0 := by omega
    subst h1
    rw [show Lib.bitLen 0 = 0 by decide +kernel]; omega
theorem and18 (m e : Nat) (hm : m < 262144) (he : e < 64) : bits .and .u64 ((e * 262144 + m : Nat) : Int) 262143 = (m : Int) := by
  rw [show (262143 : Int) = ((262143 : Nat) : Int) from rfl, bits_and_u64_nat _ _ (by omega) (by omega)]
  have h3 : (262143 : Nat) = 2 ^ 18 - 1 := by decide
  rw [h3, Nat.and_two_pow_sub_one_eq_mod]
  congr 1
  simp only [Nat.reducePow]
  omega

set_option maxRecDepth 4000 in
set_option maxHeartbeats 400000 in
theorem rate_ok (g q m e : Nat) (tl : List UInt8) (w : World) (hm : m < 262144) (he : e < 64) (hr : m * 2 ^ e < 9223372036854775808) (h : Rdr w g q (beb 3 (e * 262144 + m) ++ tl)) :
    Calls Tryd.prog 77 #[.pointer (some ⟨g, 0, none⟩)] w fun r w' => r = .returned (.int .u64 ((m * 2 ^ e : Nat) : Int)) ∧ Rdr w' g q tl ∧ Only g w w' := by
  have HN : Hid (Calls Tryd.prog 65 #[.pointer (some ⟨g, 0, none⟩), .int .i64 3] w fun r w' => r = .returned (.int .u64 ((e * 262144 + m : Nat) : Int)) ∧ Rdr w' g q tl ∧ Only g w w') := Lib.hid (numberB g q 3 (e * 262144 + m) tl w (by omega) (by omega) (by simp only [Nat.reducePow]; omega) h)
  have HL : Hid (∀ W, Calls Tryd.prog 53 #[.int .u64 (m : Int)] W fun r w' => r = .returned (.int .i64 (Lib.bitLen m : Int)) ∧ W = w') := Lib.hid fun W => len64_any m W (by omega)
  have HT : Hid (∀ W, Calls Tryd.prog 53 #[.int .u64 9223372036854775808] W fun r w' => r = .returned (.int .i64 64) ∧ W = w') := Lib.hid fun W => by
    have := len64_any 9223372036854775808 W (by omega)
    rw [show Lib.bitLen 9223372036854775808 = 64 by decide +kernel] at this
    exact this
  have hf := rate_fit m e hm he hr
  have ha := and18 m e hm he
  obtain ⟨x, hx⟩ : ∃ x : Int, x = ((e * 262144 + m : Nat) : Int) := ⟨_, rfl⟩
  rw [← hx] at HN ha
  have e1 : x / 262144 = (e : Int) := by omega
  have e2 : IntKind.i64.wrap (e : Int) = (e : Int) := by rw [IntKind.wrap_i64]; omega
  obtain ⟨L, hL⟩ : ∃ L, L = Lib.bitLen m := ⟨_, rfl⟩
  rw [← hL] at HL hf
  have e3 : IntKind.i64.wrap ((e : Int) + (L : Int)) = (e : Int) + (L : Int) := by rw [IntKind.wrap_i64]; omega
  have e4 : ¬ (64 ≤ (e : Int) + (L : Int)) := by omega
  obtain ⟨R, hR⟩ : ∃ R, R = m * 2 ^ e := ⟨_, rfl⟩
  have hcast : (m : Int) * 2 ^ e = (R : Int) := by rw [hR]; simp
  rw [← hR] at hr ⊢
  have e5 : IntKind.u64.wrap ((m : Int) * 2 ^ e) = (R : Int) := by rw [hcast, IntKind.wrap_u64]; omega
  have hsh : Op.shift .shl .u64 (m : Int) .i64 (e : Int) = pure (.int .u64 (R : Int)) := by
    have h0 : ¬ ((e : Int) < 0) := by omega
    unfold Op.shift
    rw [if_neg h0]
    simp only [Int.toNat_natCast, IntKind.bits]
    rw [Nat.min_eq_left (by omega), e5]
  have HH := Lib.hid h
  clear h hr hm hL hR hx hf hcast
  go_enter Tryd.func77, Tryd.ntmps77
  go_wp2_with (first
    | (go_at_call 65; ((with_reducible refine (Hid.out HN).mono ?_); rintro r w1 ⟨rfl, hr1, ho1⟩; have R1 := Lib.hid (And.intro hr1 ho1); clear hr1 ho1))
    | (go_at_call 53; ((with_reducible refine (Hid.out HL _).mono ?_); rintro r wx ⟨rfl, rfl⟩))
    | (go_at_call 53; ((with_reducible refine (Hid.out HT _).mono ?_); rintro r wx ⟨rfl, rfl⟩))
    | (go_at_call 24; ((with_reducible refine (refuse_no _ _ _ ?_).mono ?_); (first | rfl | (simp; omega)); rintro r wx ⟨rfl, rfl⟩)))
  go_ret
  exact ⟨rfl, R1.out.1, R1.out.2⟩

set_option maxRecDepth 4000 in
set_option maxHeartbeats 400000 in
theorem los_toEnd (g q n : Nat) (L : List (Nat × Nat)) (w : World) (hn : L.length = n) (h1 : 1 ≤ n) (h16 : n ≤ 16) (hL : ∀ x ∈ L, x.1 < 65536 ∧ x.2 < 65536) (h : Rdr w g q (L.flatMap lossB)) :
    Calls Tryd.prog 71 #[.pointer (some ⟨g, 0, none⟩), .int .i64 4, .func (.func 72) #[.pointer (some ⟨g, 0, none⟩)] #[]] w fun r w' => ∃ A c, r = .returned (.slice A n c) ∧ w'.ownsRow w.heap.size 41 2 (.slice A n c) n (L.flatMap cLos) ∧ Rdr w' g q [] ∧ w.grownBy w' (some g) := by
  have HL := Lib.hid (los_list g q n L [] w hn h16 hL (by rw [List.append_nil]; exact h))
  obtain ⟨A0, n0, c0, hB, hR, hLo⟩ := h
  have hlen := hR.len
  rw [flat_len lossB 4 lossB_len, hn] at hlen
  have hc := hB.cell 1
  simp only [List.getElem?_cons_succ, List.getElem?_cons_zero] at hc
  have e1 : Int.tdiv (n0 : Int) 4 = (n : Int) := by rw [Int.tdiv_eq_ediv_of_nonneg (by omega)]; omega
  have e1b : (n0 : Int) / 4 = (n : Int) := by omega
  have e2 : IntKind.i64.wrap (n : Int) = (n : Int) := by rw [IntKind.wrap_i64]; omega
  have e3 : ¬ (n : Int) = 0 := by omega
  have hs := hR.small
  clear hB hR hLo hlen hn
  go_enter Tryd.func71, Tryd.ntmps71
  go_wp2_with (first
    | (go_at_call 24; ((with_reducible refine (refuse_no _ _ _ ?_).mono ?_); (first | rfl | (simp; omega)); rintro r wx ⟨rfl, rfl⟩))
    | (go_at_call 79; ((with_reducible refine (Hid.out HL).mono ?_); rintro r w1 ⟨A1, c1, rfl, hr1⟩; have R1 := Lib.hid hr1; clear hr1)))
  go_ret
  exact ⟨A1, c1, rfl, R1.out⟩

set_option maxRecDepth 4000 in
set_option maxHeartbeats 400000 in
theorem fir_toEnd (g q n : Nat) (L : List (Nat × Nat)) (w : World) (hn : L.length = n) (h1 : 1 ≤ n) (h16 : n ≤ 16) (hL : ∀ x ∈ L, x.1 < 4294967296 ∧ x.2 < 256) (h : Rdr w g q (L.flatMap firB)) :
    Calls Tryd.prog 74 #[.pointer (some ⟨g, 0, none⟩), .int .i64 8, .func (.func 75) #[.pointer (some ⟨g, 0, none⟩)] #[]] w fun r w' => ∃ A c, r = .returned (.slice A n c) ∧ w'.ownsRow w.heap.size 76 2 (.slice A n c) n (L.flatMap cFir) ∧ Rdr w' g q [] ∧ w.grownBy w' (some g) := by
  have HL := Lib.hid (fir_list g q n L [] w hn h16 hL (by rw [List.append_nil]; exact h))
  obtain ⟨A0, n0, c0, hB, hR, hLo⟩ := h
  have hlen := hR.len
  rw [flat_len firB 8 firB_len, hn] at hlen
  have hc := hB.cell 1
  simp only [List.getElem?_cons_succ, List.getElem?_cons_zero] at hc
  have e1 : Int.tdiv (n0 : Int) 8 = (n : Int) := by rw [Int.tdiv_eq_ediv_of_nonneg (by omega)]; omega
  have e1b : (n0 : Int) / 8 = (n : Int) := by omega
  have e2 : IntKind.i64.wrap (n : Int) = (n : Int) := by rw [IntKind.wrap_i64]; omega
  have e3 : ¬ (n : Int) = 0 := by omega
  have hs := hR.small
  clear hB hR hLo hlen hn
  go_enter Tryd.func74, Tryd.ntmps74
  go_wp2_with (first
    | (go_at_call 24; ((with_reducible refine (refuse_no _ _ _ ?_).mono ?_); (first | rfl | (simp; omega)); rintro r wx ⟨rfl, rfl⟩))
    | (go_at_call 80; ((with_reducible refine (Hid.out HL).mono ?_); rintro r w1 ⟨A1, c1, rfl, hr1⟩; have R1 := Lib.hid hr1; clear hr1)))
  go_ret
  exact ⟨A1, c1, rfl, R1.out⟩

set_option maxRecDepth 100000 in
set_option maxHeartbeats 1000000 in
theorem pli_any (g q : Nat) (so me : Nat) (w : World) (hso : so < 4294967296) (hme : me < 4294967296) (h : Rdr w g q (bPL so me)) :
    Calls Tryd.prog 61 #[.pointer (some ⟨g, 0, none⟩)] w fun r w' => ∃ cs, r = .returned (.agg cs.toArray) ∧ OwnC w' w.heap.size cs (mkPL 0 so me) ∧ Rdr w' g q [] ∧ w.grownBy w' (some g) := by
  have hz := zeroCtl
  have S0 := Lib.hid (StG.start h 50 zCtl #[.int .i64 0, .int .u32 0, .int .u32 0, .int .u64 0, .int .u32 0, .int .u32 0, .int .u32 0, .slice none 0 0, .slice none 0 0, .slice none 0 0, .slice none 0 0, .slice none 0 0, .int .u64 0] rfl)
  simp only [bPL] at S0
  rw [← List.append_nil (beb 4 me)] at S0
  clear h
  go_enter Tryd.func61, Tryd.ntmps61
  go_wp2_with (first
    | (go_at_call 64; ((with_reducible refine (wordS hso S0.out).mono ?_); rintro r w1 ⟨rfl, hs⟩; have S1 := Lib.hid hs; clear hs))
    | (go_at_call 64; ((with_reducible refine (wordS hme S1.out).mono ?_); rintro r w2 ⟨rfl, hs⟩; have S2 := Lib.hid hs; clear hs))
    | ((refine wpList_st rfl 50 (.tmp 2) (.tmp 7) rfl w.heap.size 0 (ctlC 0 so me 0 0 0 0 (.slice none 0 0) (.slice none 0 0) (.slice none 0 0) (.slice none 0 0) (.slice none 0 0) 0) rfl (by with_unfolding_all rfl) 50 zCtl S2.out.cell (Nat.le_refl 13) (rowCtl rfl) (ctlC_one _ _ _ _ _ _ _ _ _ _ _ _ _ _ _ _ _ _ _ _ _ _ _) ?_); intro w9 hB9 ho9; rw [splice_all _ _ (by rfl)] at hB9))
  refine ret_row rfl rfl hB9 (rowCtl rfl) rfl ?_
  have hov := S2.out.over ho9
  exact ⟨_, rfl, ⟨none, 0, none, 0, none, 0, none, 0, none, 0, rfl, nilN _ _ _ _, nilN _ _ _ _, nilN _ _ _ _, nilN _ _ _ _, nilN _ _ _ _⟩, hov.1, hov.2⟩

set_option maxRecDepth 100000 in
set_option maxHeartbeats 1000000 in
theorem nack_any (g q n : Nat) (so me : Nat) (L : List (Nat × Nat)) (w : World) (hso : so < 4294967296) (hme : me < 4294967296) (hn : L.length = n) (h1 : 1 ≤ n) (h16 : n ≤ 16) (hL : ∀ x ∈ L, x.1 < 65536 ∧ x.2 < 65536) (h : Rdr w g q (bNA so me L)) :
    Calls Tryd.prog 60 #[.pointer (some ⟨g, 0, none⟩)] w fun r w' => ∃ cs, r = .returned (.agg cs.toArray) ∧ OwnC w' w.heap.size cs (mkNA 0 so me L) ∧ Rdr w' g q [] ∧ w.grownBy w' (some g) := by
  have hz := zeroCtl
  have S0 := Lib.hid (StG.start h 50 zCtl #[.int .i64 0, .int .u32 0, .int .u32 0, .int .u64 0, .int .u32 0, .int .u32 0, .int .u32 0, .slice none 0 0, .slice none 0 0, .slice none 0 0, .slice none 0 0, .slice none 0 0, .int .u64 0] rfl)
  simp only [bNA] at S0
  clear h
  go_enter Tryd.func60, Tryd.ntmps60
  go_wp2_with (first
    | (go_at_call 64; ((with_reducible refine (wordS hso S0.out).mono ?_); rintro r w1 ⟨rfl, hs⟩; have S1 := Lib.hid hs; clear hs))
    | (go_at_call 64; ((with_reducible refine (wordS hme S1.out).mono ?_); rintro r w2 ⟨rfl, hs⟩; have S2 := Lib.hid hs; have D2 := Lib.hid hs.rdr; clear hs))
    | (go_at_call 71; ((with_reducible refine (los_toEnd g q n L _ hn h1 h16 hL D2.out).mono ?_); rintro r w3 ⟨AL, cL, rfl, hown, hr, hg⟩; have S3 := Lib.hid (S2.out.grow hr hg); have HO := Lib.hid (own_moN hown S2.out.sz); clear hown hr hg))
    | ((refine wpList_st rfl 50 (.tmp 2) (.tmp 11) rfl w.heap.size 0 (ctlC 0 so me 0 0 0 0 (.slice none 0 0) (.slice none 0 0) (.slice none 0 0) (.slice AL n cL) (.slice none 0 0) 0) rfl (by with_unfolding_all rfl) 50 zCtl S3.out.cell (Nat.le_refl 13) (rowCtl rfl) (ctlC_one _ _ _ _ _ _ _ _ _ _ _ _ _ _ _ _ _ _ _ _ _ _ _) ?_); intro w9 hB9 ho9; rw [splice_all _ _ (by rfl)] at hB9))
  refine ret_row rfl rfl hB9 (rowCtl rfl) rfl ?_
  have hov := S3.out.over ho9
  exact ⟨_, rfl, ⟨none, 0, none, 0, none, 0, AL, cL, none, 0, by rw [show (mkNA 0 so me L).loss.length = n from hn]; rfl, nilN _ _ _ _, nilN _ _ _ _, nilN _ _ _ _, (by show w9.ownsRow _ _ _ (.slice AL L.length cL) L.length _; rw [hn]; exact own_thN HO.out ho9.grown (fun p hp => .inr ⟨_, _, _, by injection hp with hp; subst hp; exact S3.out.cell, by decide⟩)), nilN _ _ _ _⟩, hov.1, hov.2⟩

set_option maxRecDepth 100000 in
set_option maxHeartbeats 1000000 in
theorem names_any (g q n : Nat) (L : List (Nat × List UInt8)) (w : World) (hq : n = q) (hn : L.length = n) (h16 : n ≤ 16) (hL : ∀ x ∈ L, x.1 < 4294967296 ∧ nameP (txt x.2)) (h : Rdr w g q (bSD L)) :
    Calls Tryd.prog 58 #[.pointer (some ⟨g, 0, none⟩)] w fun r w' => ∃ cs, r = .returned (.agg cs.toArray) ∧ OwnC w' w.heap.size cs (mkSD 0 L) ∧ Rdr w' g q [] ∧ w.grownBy w' (some g) := by
  have hz := zeroCtl
  subst hq
  have S0 := Lib.hid (StG.start h 50 zCtl #[.int .i64 0, .int .u32 0, .int .u32 0, .int .u64 0, .int .u32 0, .int .u32 0, .int .u32 0, .slice none 0 0, .slice none 0 0, .slice none 0 0, .slice none 0 0, .slice none 0 0, .int .u64 0] rfl)
  simp only [bSD] at S0
  rw [← List.append_nil (L.flatMap namB)] at S0
  have D0 := Lib.hid S0.out.rdr
  have cn := S0.out.cnt
  clear h
  go_enter Tryd.func58, Tryd.ntmps58
  go_wp2_with (first
    | (go_at_call 68; ((with_reducible refine (nam_list g n n L [] _ hn h16 hL D0.out).mono ?_); rintro r w1 ⟨AL, cL, rfl, hown, hr, hg⟩; have S1 := Lib.hid (S0.out.grow hr hg); have HO := Lib.hid (own_moN hown S0.out.sz); clear hown hr hg))
    | ((refine wpList_st rfl 50 (.tmp 2) (.tmp 10) rfl w.heap.size 0 (ctlC 0 0 0 0 0 0 0 (.slice none 0 0) (.slice AL n cL) (.slice none 0 0) (.slice none 0 0) (.slice none 0 0) 0) rfl (by with_unfolding_all rfl) 50 zCtl S1.out.cell (Nat.le_refl 13) (rowCtl rfl) (ctlC_one _ _ _ _ _ _ _ _ _ _ _ _ _ _ _ _ _ _ _ _ _ _ _) ?_); intro w9 hB9 ho9; rw [splice_all _ _ (by rfl)] at hB9))
  refine ret_row rfl rfl hB9 (rowCtl rfl) rfl ?_
  have hov := S1.out.over ho9
  exact ⟨_, rfl, ⟨none, 0, AL, cL, none, 0, none, 0, none, 0, by rw [show (mkSD 0 L).nams.length = n from hn]; rfl, nilN _ _ _ _, (by show w9.ownsRow _ _ _ (.slice AL L.length cL) L.length _; rw [hn]; exact own_thN HO.out ho9.grown (fun p hp => .inr ⟨_, _, _, by injection hp with hp; subst hp; exact S1.out.cell, by decide⟩)), nilN _ _ _ _, nilN _ _ _ _, nilN _ _ _ _⟩, hov.1, hov.2⟩

set_option maxRecDepth 100000 in
set_option maxHeartbeats 1000000 in
theorem bye_any (g q n : Nat) (L : List Nat) (w : World) (hq : n = q) (hn : L.length = n) (h16 : n ≤ 16) (hL : ∀ x ∈ L, x < 4294967296) (h : Rdr w g q (bBY L)) :
    Calls Tryd.prog 59 #[.pointer (some ⟨g, 0, none⟩)] w fun r w' => ∃ cs, r = .returned (.agg cs.toArray) ∧ OwnC w' w.heap.size cs (mkBY 0 L) ∧ Rdr w' g q [] ∧ w.grownBy w' (some g) := by
  have hz := zeroCtl
  subst hq
  have S0 := Lib.hid (StG.start h 50 zCtl #[.int .i64 0, .int .u32 0, .int .u32 0, .int .u64 0, .int .u32 0, .int .u32 0, .int .u32 0, .slice none 0 0, .slice none 0 0, .slice none 0 0, .slice none 0 0, .slice none 0 0, .int .u64 0] rfl)
  simp only [bBY] at S0
  rw [← List.append_nil (L.flatMap (beb 4))] at S0
  have D0 := Lib.hid S0.out.rdr
  have cn := S0.out.cnt
  clear h
  go_enter Tryd.func59, Tryd.ntmps59
  go_wp2_with (first
    | (go_at_call 70; ((with_reducible refine (src_list g n n L [] _ hn h16 hL D0.out).mono ?_); rintro r w1 ⟨AL, cL, rfl, hown, hr, hg⟩; have S1 := Lib.hid (S0.out.grow hr hg); have HO := Lib.hid (own_moN hown S0.out.sz); clear hown hr hg))
    | ((refine wpList_st rfl 50 (.tmp 2) (.tmp 10) rfl w.heap.size 0 (ctlC 0 0 0 0 0 0 0 (.slice none 0 0) (.slice none 0 0) (.slice AL n cL) (.slice none 0 0) (.slice none 0 0) 0) rfl (by with_unfolding_all rfl) 50 zCtl S1.out.cell (Nat.le_refl 13) (rowCtl rfl) (ctlC_one _ _ _ _ _ _ _ _ _ _ _ _ _ _ _ _ _ _ _ _ _ _ _) ?_); intro w9 hB9 ho9; rw [splice_all _ _ (by rfl)] at hB9))
  refine ret_row rfl rfl hB9 (rowCtl rfl) rfl ?_
  have hov := S1.out.over ho9
  exact ⟨_, rfl, ⟨none, 0, none, 0, AL, cL, none, 0, none, 0, by rw [show (mkBY 0 L).srcs.length = n from hn]; rfl, nilN _ _ _ _, nilN _ _ _ _, (by show w9.ownsRow _ _ _ (.slice AL L.length cL) L.length _; rw [hn]; exact own_thN HO.out ho9.grown (fun p hp => .inr ⟨_, _, _, by injection hp with hp; subst hp; exact S1.out.cell, by decide⟩)), nilN _ _ _ _, nilN _ _ _ _⟩, hov.1, hov.2⟩
end Go.Proofs.YtacaempcbdekaaaDoor

namespace Go.Proofs.YtacaempcbdekaaaDoor
open Go.RowKit
set_option linter.unusedVariables false

theorem StG.far {w0 w w' : World} {g q p : Nat} {e : TypeId} {z : List Value} {bs : List UInt8} (h : StG w0 g q e z bs w) (ho : Only p w w') (hp : w0.heap.size < p) : StG w0 g q e z bs w' :=
  ⟨h.1, h.2.1.grown ho.grown (fun k hk => by injection hk with hk; have := h.1; omega), grown_then h.2.2.1 ho.grown (fun k hk => .inl (by injection hk with hk; omega)), h.2.2.2.only ho (by omega)⟩
theorem StG.ltg {w0 w : World} {g q : Nat} {e : TypeId} {z : List Value} {bs : List UInt8} (h : StG w0 g q e z bs w) : g < w0.heap.size := h.1
theorem numberI (g q m x : Nat) (tl : List UInt8) (w : World) (mi : Int) (hmi : mi = m) (h1 : 1 ≤ m) (h8 : m ≤ 8) (hx : x < 256 ^ m) (h : Rdr w g q (beb m x ++ tl)) :
    Calls Tryd.prog 65 #[.pointer (some ⟨g, 0, none⟩), .int .i64 mi] w fun e w' => e = .returned (.int .u64 (x : Int)) ∧ Rdr w' g q tl ∧ Only g w w' := by
  subst hmi; exact numberB g q m x tl w h1 h8 hx h
theorem letB_txt : txt letB = { data := #[82, 69, 77, 66] } := rfl

set_option maxRecDepth 100000 in
set_option maxHeartbeats 1000000 in
theorem fir_any (g q n : Nat) (so : Nat) (L : List (Nat × Nat)) (w : World) (hso : so < 4294967296) (hn : L.length = n) (h1 : 1 ≤ n) (h16 : n ≤ 16) (hL : ∀ x ∈ L, x.1 < 4294967296 ∧ x.2 < 256) (h : Rdr w g q (bFI so L)) :
    Calls Tryd.prog 62 #[.pointer (some ⟨g, 0, none⟩)] w fun r w' => ∃ cs, r = .returned (.agg cs.toArray) ∧ OwnC w' w.heap.size cs (mkFI 0 so L) ∧ Rdr w' g q [] ∧ w.grownBy w' (some g) := by
  have hz := zeroCtl
  have S0 := Lib.hid (StG.start h 50 zCtl #[.int .i64 0, .int .u32 0, .int .u32 0, .int .u64 0, .int .u32 0, .int .u32 0, .int .u32 0, .slice none 0 0, .slice none 0 0, .slice none 0 0, .slice none 0 0, .slice none 0 0, .int .u64 0] rfl)
  simp only [bFI, beb_zero] at S0
  clear h
  go_enter Tryd.func62, Tryd.ntmps62
  go_wp2_with (first
    | (go_at_call 64; ((with_reducible refine (wordS hso S0.out).mono ?_); rintro r w1 ⟨rfl, hs⟩; have S1 := Lib.hid hs; have hw1 : w.heap.size < w1.heap.size := hs.cell.lt; have hgp : w1.heap.size ≠ g := Nat.ne_of_gt (Nat.lt_trans hs.ltg hw1); have S2 := Lib.hid (hs.below ((Below.refl _ _).alloc (Nat.le_refl _) (.cells #[.int .i64 0, .int .u32 (so : Int), .int .u32 0, .int .u64 0, .int .u32 0, .int .u32 0, .int .u32 0, .slice none 0 0, .slice none 0 0, .slice none 0 0, .slice none 0 0, .slice none 0 0, .int .u64 0] 50))); have B2 : Hid (BlkV (w1.alloc (.cells #[.int .i64 0, .int .u32 (so : Int), .int .u32 0, .int .u64 0, .int .u32 0, .int .u32 0, .int .u32 0, .slice none 0 0, .slice none 0 0, .slice none 0 0, .slice none 0 0, .slice none 0 0, .int .u64 0] 50)) w1.heap.size 50 (ctlC 0 so 0 0 0 0 0 (.slice none 0 0) (.slice none 0 0) (.slice none 0 0) (.slice none 0 0) (.slice none 0 0) 0)) := Lib.hid (BlkV.new_at _ _ _ _ _ rfl rfl); have D2 := Lib.hid S2.out.rdr; clear hs))
    | (go_at_call 73; ((with_reducible refine (zerosI g q 4 _ _ _ (by omega) D2.out).mono ?_); rintro r w3 ⟨rfl, hr, ho⟩; have S3 := Lib.hid (S2.out.only hr ho); have B3 := Lib.hid (B2.out.only ho hgp); have D3 := Lib.hid S3.out.rdr; clear hr ho))
    | (go_at_call 74; ((with_reducible refine (fir_toEnd g q n L _ hn h1 h16 hL D3.out).mono ?_); rintro r w4 ⟨AL, cL, rfl, hown, hr, hg⟩; have S4 := Lib.hid (S3.out.grow hr hg); have B4 := Lib.hid (B3.out.grown hg (by intro e; injection e with e; exact hgp e)); have HO := Lib.hid (own_moN hown S3.out.sz); have cz : w4.cell? ⟨w1.heap.size, 11, none⟩ = some (.slice none 0 0) := (B4.out.cell 11).trans rfl; have cf := B4.out.frozen 11; have B5 := Lib.hid (B4.out.set_ 11 (.slice AL n cL)); have R5 : Hid ((w4.setCell ⟨w1.heap.size, 11, none⟩ (.slice AL n cL)).rangeAt w1.heap.size 0 (ctlC 0 so 0 0 0 0 0 (.slice none 0 0) (.slice none 0 0) (.slice none 0 0) (.slice none 0 0) (.slice AL n cL) 0)) := Lib.hid (B5.out.range 0 _ (fun i _ => by rw [Nat.zero_add]; rfl)); have ho5 := Only.set w4 w1.heap.size 11 (.slice AL n cL); have S5 := Lib.hid (S4.out.far ho5 hw1); have H5 := Lib.hid (own_thN HO.out ho5.grown (fun p hp => .inr ⟨_, _, _, by injection hp with hp; subst hp; exact B4.out, by decide⟩)); clear hown hr hg ho5))
    | (with_reducible refine wpList_ld rfl 50 (.tmp 3) rfl w1.heap.size 0 rfl (ctlC 0 so 0 0 0 0 0 (.slice none 0 0) (.slice none 0 0) (.slice none 0 0) (.slice none 0 0) (.slice AL n cL) 0) R5.out (rowCtl rfl) ?_)
    | ((refine wpList_st rfl 50 (.tmp 2) (.tmp 14) rfl w.heap.size 0 (ctlC 0 so 0 0 0 0 0 (.slice none 0 0) (.slice none 0 0) (.slice none 0 0) (.slice none 0 0) (.slice AL n cL) 0) rfl rfl 50 zCtl S5.out.cell (Nat.le_refl 13) (rowCtl rfl) (ctlC_one _ _ _ _ _ _ _ _ _ _ _ _ _ _ _ _ _ _ _ _ _ _ _) ?_); intro w9 hB9 ho9; rw [splice_all _ _ (by rfl)] at hB9))
  refine ret_row rfl rfl hB9 (rowCtl rfl) rfl ?_
  have hov := S5.out.over ho9
  exact ⟨_, rfl, ⟨none, 0, none, 0, none, 0, none, 0, AL, cL, by rw [show (mkFI 0 so L).firs.length = n from hn]; rfl, nilN _ _ _ _, nilN _ _ _ _, nilN _ _ _ _, nilN _ _ _ _, (by show w9.ownsRow _ _ _ (.slice AL L.length cL) L.length _; rw [hn]; exact own_thN H5.out ho9.grown (fun p hp => .inr ⟨_, _, _, by injection hp with hp; subst hp; exact S5.out.cell, by decide⟩))⟩, hov.1, hov.2⟩

set_option maxRecDepth 100000 in
set_option maxHeartbeats 1000000 in
theorem remb_any (g q n : Nat) (so m e R : Nat) (L : List Nat) (w : World) (hso : so < 4294967296) (hn : L.length = n) (h16 : n ≤ 16) (hL : ∀ x ∈ L, x < 4294967296) (hm : m < 262144) (he : e < 64) (hR : R = m * 2 ^ e) (hr : m * 2 ^ e < 9223372036854775808) (h : Rdr w g q (bRE so L m e)) :
    Calls Tryd.prog 63 #[.pointer (some ⟨g, 0, none⟩)] w fun r w' => ∃ cs, r = .returned (.agg cs.toArray) ∧ OwnC w' w.heap.size cs (mkRE 0 so L R) ∧ Rdr w' g q [] ∧ w.grownBy w' (some g) := by
  have hz := zeroCtl
  have S0 := Lib.hid (StG.start h 50 zCtl #[.int .i64 0, .int .u32 0, .int .u32 0, .int .u64 0, .int .u32 0, .int .u32 0, .int .u32 0, .slice none 0 0, .slice none 0 0, .slice none 0 0, .slice none 0 0, .slice none 0 0, .int .u64 0] rfl)
  simp only [bRE, beb_zero] at S0
  rw [hn, ← List.append_nil (L.flatMap (beb 4))] at S0
  have e1 : IntKind.i64.wrap (n : Int) = (n : Int) := by rw [IntKind.wrap_i64]; omega
  have l1 : n < 256 ^ 1 := by omega
  have HRt : Hid (∀ W tl, Rdr W g q (beb 3 (e * 262144 + m) ++ tl) → Calls Tryd.prog 77 #[.pointer (some ⟨g, 0, none⟩)] W fun r w' => r = .returned (.int .u64 (R : Int)) ∧ Rdr w' g q tl ∧ Only g W w') := Lib.hid fun W tl hW => by
    have := rate_ok g q m e tl W hm he hr hW
    rw [← hR] at this
    exact this
  clear h hr hR hm he
  go_enter Tryd.func63, Tryd.ntmps63
  go_wp2_with (first
    | (go_at_call 64; ((with_reducible refine (wordS hso S0.out).mono ?_); rintro r w1 ⟨rfl, hs⟩; have S1 := Lib.hid hs; have hw1 : w.heap.size < w1.heap.size := hs.cell.lt; have hgp : w1.heap.size ≠ g := Nat.ne_of_gt (Nat.lt_trans hs.ltg hw1); have S2 := Lib.hid (hs.below ((Below.refl _ _).alloc (Nat.le_refl _) (.cells #[.int .i64 0, .int .u32 (so : Int), .int .u32 0, .int .u64 0, .int .u32 0, .int .u32 0, .int .u32 0, .slice none 0 0, .slice none 0 0, .slice none 0 0, .slice none 0 0, .slice none 0 0, .int .u64 0] 50))); have B2 : Hid (BlkV (w1.alloc (.cells #[.int .i64 0, .int .u32 (so : Int), .int .u32 0, .int .u64 0, .int .u32 0, .int .u32 0, .int .u32 0, .slice none 0 0, .slice none 0 0, .slice none 0 0, .slice none 0 0, .slice none 0 0, .int .u64 0] 50)) w1.heap.size 50 (ctlC 0 so 0 0 0 0 0 (.slice none 0 0) (.slice none 0 0) (.slice none 0 0) (.slice none 0 0) (.slice none 0 0) 0)) := Lib.hid (BlkV.new_at _ _ _ _ _ rfl rfl); have D2 := Lib.hid S2.out.rdr; clear hs))
    | (go_at_call 73; ((with_reducible refine (zerosI g q 4 _ _ _ (by omega) D2.out).mono ?_); rintro r w3 ⟨rfl, hr, ho⟩; have S3 := Lib.hid (S2.out.only hr ho); have B3 := Lib.hid (B2.out.only ho hgp); have D3 := Lib.hid S3.out.rdr; clear hr ho))
    | (go_at_call 76; ((with_reducible refine (bytesB g q letB _ _ D3.out _ (by decide)).mono ?_); rintro r w4 ⟨A4, c4, rfl, hr4, hs, _, ho⟩; have S4 := Lib.hid (S3.out.only hs ho); have B4 := Lib.hid (B3.out.only ho hgp); have v1 : (convert 25 9 (.slice A4 letB.length c4)).run Tryd.prog w4 = .ok (.string { data := #[82, 69, 77, 66] }) w4 := run_conv hr4 25 9 5 Tryd.underlying25 Tryd.underlying5 Tryd.underlying9; have D4 := Lib.hid S4.out.rdr; clear hs hr4 ho))
    | (go_at_call 24; ((with_reducible refine (refuse_no _ _ _ ?_).mono ?_) ; (first | rfl | simp); rintro r wx ⟨rfl, rfl⟩))
    | (go_at_call 65; ((with_reducible refine (numberI g q 1 n _ _ _ (by omega) (by omega) (by omega) l1 D4.out).mono ?_); rintro r w5 ⟨rfl, hs, ho⟩; have S5 := Lib.hid (S4.out.only hs ho); have B5 := Lib.hid (B4.out.only ho hgp); have D5 := Lib.hid S5.out.rdr; clear hs ho))
    | (go_at_call 77; ((with_reducible refine (Hid.out HRt _ _ D5.out).mono ?_); rintro r w6 ⟨rfl, hs, ho⟩; have S6 := Lib.hid (S5.out.only hs ho); have B6 := Lib.hid (B5.out.only ho hgp); have cz6 : w6.cell? ⟨w1.heap.size, 12, none⟩ = some (.int .u64 ((0 : Nat) : Int)) := (B6.out.cell 12).trans rfl; have cf6 := B6.out.frozen 12; have X6 := Lib.hid (B6.out.set_ 12 (.int .u64 (R : Int))); have T6 := Lib.hid (S6.out.far (Only.set w6 w1.heap.size 12 (.int .u64 (R : Int))) hw1); have D6 := Lib.hid T6.out.rdr; clear hs ho))
    | (go_at_call 70; ((with_reducible refine (src_list g q n L [] _ hn h16 hL D6.out).mono ?_); rintro r w7 ⟨AL, cL, rfl, hown, hr, hg⟩; have S7 := Lib.hid (T6.out.grow hr hg); have B7 := Lib.hid (X6.out.grown hg (by intro e; injection e with e; exact hgp e)); have HO := Lib.hid (own_moN hown T6.out.sz); have cz7 : w7.cell? ⟨w1.heap.size, 9, none⟩ = some (.slice none 0 0) := (B7.out.cell 9).trans rfl; have cf7 := B7.out.frozen 9; have B8 := Lib.hid (B7.out.set_ 9 (.slice AL n cL)); have R8 : Hid ((w7.setCell ⟨w1.heap.size, 9, none⟩ (.slice AL n cL)).rangeAt w1.heap.size 0 (ctlC 0 so 0 0 0 0 0 (.slice none 0 0) (.slice none 0 0) (.slice AL n cL) (.slice none 0 0) (.slice none 0 0) R)) := Lib.hid (B8.out.range 0 _ (fun i _ => by rw [Nat.zero_add]; rfl)); have ho8 := Only.set w7 w1.heap.size 9 (.slice AL n cL); have S8 := Lib.hid (S7.out.far ho8 hw1); have H8 := Lib.hid (own_thN HO.out ho8.grown (fun p hp => .inr ⟨_, _, _, by injection hp with hp; subst hp; exact B7.out, by decide⟩)); clear hown hr hg ho8))
    | (with_reducible refine wpList_ld rfl 50 (.tmp 3) rfl w1.heap.size 0 rfl (ctlC 0 so 0 0 0 0 0 (.slice none 0 0) (.slice none 0 0) (.slice AL n cL) (.slice none 0 0) (.slice none 0 0) R) R8.out (rowCtl rfl) ?_)
    | ((refine wpList_st rfl 50 (.tmp 2) (.tmp 26) rfl w.heap.size 0 (ctlC 0 so 0 0 0 0 0 (.slice none 0 0) (.slice none 0 0) (.slice AL n cL) (.slice none 0 0) (.slice none 0 0) R) rfl rfl 50 zCtl S8.out.cell (Nat.le_refl 13) (rowCtl rfl) (ctlC_one _ _ _ _ _ _ _ _ _ _ _ _ _ _ _ _ _ _ _ _ _ _ _) ?_); intro w9 hB9 ho9; rw [splice_all _ _ (by rfl)] at hB9))
  refine ret_row rfl rfl hB9 (rowCtl rfl) rfl ?_
  have hov := S8.out.over ho9
  exact ⟨_, rfl, ⟨none, 0, none, 0, AL, cL, none, 0, none, 0, by rw [show (mkRE 0 so L R).srcs.length = n from hn]; rfl, nilN _ _ _ _, nilN _ _ _ _, (by show w9.ownsRow _ _ _ (.slice AL L.length cL) L.length _; rw [hn]; exact own_thN H8.out ho9.grown (fun p hp => .inr ⟨_, _, _, by injection hp with hp; subst hp; exact S8.out.cell, by decide⟩)), nilN _ _ _ _, nilN _ _ _ _⟩, hov.1, hov.2⟩
end Go.Proofs.YtacaempcbdekaaaDoor

namespace Go.Proofs.YtacaempcbdekaaaDoor
open Go.RowKit
set_option linter.unusedVariables false

set_option maxRecDepth 100000 in
set_option maxHeartbeats 1000000 in
theorem packet_sent (A : Option Addr) (n c q s : Nat) (bs : List UInt8) (cc : Ctl) (w : World) (ht : Tab w) (hw : 0 < w.heap.size) (hr : RdS w A n c bs) (hn : 4 ≤ n) (hq : q < 32) (hs : s < 256) (h0 : (bs.getD 0 0).toNat = 128 + q) (h1 : (bs.getD 1 0).toNat = s) (hk : kindN s q = 200) (hB : BodyIs 56 q (bs.drop 4) cc) :
    Calls Tryd.prog 37 #[.slice A n c] w fun r w' => ∃ cs, r = .returned (.agg cs.toArray) ∧ OwnC w' w.heap.size cs { cc with k := 200 } ∧ Below w.heap.size w w' := by
  have hz := zeroCtl
  obtain ⟨b, off, rfl, hlt, hcl⟩ := hr.2.2.2.2 (by omega)
  have c0 := hcl 0 (by omega)
  have c1 := hcl 1 (by omega)
  rw [h0] at c0
  rw [h1] at c1
  have hs2 := hr.small
  have hle := hr.le
  obtain ⟨X, hX⟩ : ∃ X, X = 128 + q := ⟨_, rfl⟩
  rw [← hX] at c0
  have e1 : (X : Int) / 32 = 4 := hX ▸ (head_u8 q hq).1
  have e2 : bits .and .u8 (X : Int) 31 = (q : Int) := hX ▸ (head_u8 q hq).2
  have e3 : IntKind.i64.wrap (q : Int) = (q : Int) := by rw [IntKind.wrap_i64]; omega
  have e4 : IntKind.i64.wrap (s : Int) = (s : Int) := by rw [IntKind.wrap_i64]; omega
  have HR := Lib.hid hr
  have HT := Lib.hid ht
  have HK := Lib.hid hk
  have HB : Hid (∀ g w, Rdr w g q (bs.drop 4) → Calls Tryd.prog 56 #[.pointer (some ⟨g, 0, none⟩)] w fun r w' => ∃ cs, r = .returned (.agg cs.toArray) ∧ OwnC w' w.heap.size cs cc ∧ Rdr w' g q [] ∧ w.grownBy w' (some g)) := Lib.hid hB.2
  have bw : Hid (Below w.heap.size w (w.alloc (.cells zA 50))) := Lib.hid ((Below.refl _ _).alloc (Nat.le_refl _) _)
  have d0 : (w.alloc (.cells zA 50)).cell? ⟨b, off, none⟩ = some (.int .u8 (X : Int)) := (bw.out.cell (p := ⟨b, off, none⟩) hlt).trans c0
  have d1 : (w.alloc (.cells zA 50)).cell? ⟨b, off + 1, none⟩ = some (.int .u8 (s : Int)) := (bw.out.cell (p := ⟨b, off + 1, none⟩) hlt).trans c1
  have KN : Hid (∀ W, Below w.heap.size w W → Calls Tryd.prog 51 #[.int .i64 (s : Int), .int .i64 (q : Int)] W fun e w' => e = .returned (.int .i64 200) ∧ Below W.heap.size W w') := Lib.hid fun W hW => by
    have := kindOf_any s q s q rfl rfl W (HT.out.below hW hw) (Nat.lt_of_lt_of_le hw hW.size) hs hq
    rw [HK.out] at this
    exact this
  have BW : Hid (BlkV (w.alloc (.cells zA 50)) w.heap.size 50 zCtl) := Lib.hid (BlkV.new _ _ _)
  clear hcl c0 c1 hX hr ht hk hB h0 h1 hs
  go_enter Tryd.func37, Tryd.ntmps37
  go_wp2_with (first
    | (go_at_call 24; ((with_reducible refine (refuse_no _ _ _ ?_).mono ?_); (first | rfl | simp); rintro e wx ⟨rfl, rfl⟩))
    | (go_at_call 51; ((with_reducible refine (Hid.out KN _ bw.out).mono ?_); rintro e w2 ⟨rfl, hb2⟩; have b2 : Hid (Below w.heap.size w w2) := Lib.hid (bw.out.trans (hb2.mono bw.out.size)); have p2 := Lib.hid (BW.out.below hb2 BW.out.lt); clear hb2))
    | (go_at_call 52; ((with_reducible refine (bodies_any _).mono ?_); rintro e w3 ⟨rfl, hm3, hb3⟩; have b3 : Hid (Below w.heap.size w w3) := Lib.hid (b2.out.trans (hb3.mono b2.out.size)); have p3 := Lib.hid (p2.out.below hb3 p2.out.lt); have hlk := run_lkp w3 _ ent8 8 200 0 (.func (.func 56) #[] #[]) hm3 rfl rfl; clear hb3 hm3))
    | ((with_reducible refine wpList_cut rfl 25 (.tmp 36) (.const (.int .i64 4)) rfl undB szB (some ⟨b, off, none⟩) n c bs rfl 4 _ rfl rfl (HR.out.below b3.out) hn ?_); intro A2 hR2 hO2; have R3 := Lib.hid hR2; clear hR2 hO2)
    | (go_at_call 56; ((with_reducible refine (Hid.out HB w3.heap.size _ (new_rdr w3 q A2 (n - 4) (c - 4) _ R3.out)).mono ?_); rintro e w4 ⟨cs, rfl, hoc, hrd, hg4⟩; have O4 := Lib.hid hoc; have p4 := Lib.hid ((p3.out.alloc (.cells #[.int .i64 (q : Int), .slice A2 (n - 4) (c - 4)] 99)).grown hg4 (by have := p3.out.lt; intro e; injection e with e; omega)); have b4 : Hid (Below w.heap.size w w4) := Lib.hid ((b3.out.alloc b3.out.size _).grown hg4 (by simp; have := b3.out.size; omega) (fun p hp => by injection hp with hp; have := b3.out.size; omega)); have D4 := Lib.hid hrd; have hf13 := Lib.hid (fit13 hoc.len); clear hoc hrd hg4))
    | ((refine wpList_st rfl 50 (.tmp 8) (.tmp 40) rfl w4.heap.size 0 cs rfl rfl 50 zCtl (BlkV.new w4 _ _) hf13.out (rowCtl O4.out.len) O4.out.one ?_); intro w5 hB5 ho5; rw [splice_all _ _ (by rw [O4.out.len]; rfl)] at hB5; have B5 := Lib.hid hB5; have b45 : Hid (Below w4.heap.size w4 w5) := Lib.hid (((Below.refl _ _).alloc (Nat.le_refl _) _).trans (ho5.below (Nat.le_refl _))); obtain ⟨Ax, cx, hrest⟩ := (D4.out.below b45.out).none; have hfz := hB5.frozen 0; have cz := (hB5.cell 0).trans O4.out.k0; have O5 := Lib.hid (O4.out.below b45.out); have p5 := Lib.hid (p4.out.below b45.out p4.out.lt); have B6 := Lib.hid (B5.out.set_ 0 (.int .i64 200)); have R6 := Lib.hid (B6.out.range 0 (cs.set 0 (.int .i64 200)) (fun i _ => by rw [Nat.zero_add])); have L6 : Hid ((cs.set 0 (.int .i64 200)).length = 13) := Lib.hid (by rw [List.length_set]; exact O4.out.len); have O6 := Lib.hid ((O5.out.th (Only.set w5 w4.heap.size 0 (.int .i64 200)).grown (fun p hp => .inr ⟨_, _, by injection hp with hp; subst hp; exact B5.out⟩)).kind 200); have p6 := Lib.hid (p5.out.far (p := ⟨w4.heap.size, 0, none⟩) (by have := p4.out.lt; show w.heap.size ≠ w4.heap.size; omega) (.int .i64 200)); have F6 := Lib.hid (fit13 L6.out); have N6 := Lib.hid O6.out.one; clear hB5 ho5)
    | (with_reducible refine wpList_ld rfl 50 (.tmp 8) rfl w4.heap.size 0 rfl (cs.set 0 (.int .i64 200)) R6.out (rowCtl L6.out) ?_)
    | ((refine wpList_st rfl 50 (.tmp 2) (.tmp 48) rfl w.heap.size 0 (cs.set 0 (.int .i64 200)) rfl rfl 50 zCtl p6.out F6.out (rowCtl L6.out) N6.out ?_); intro w7 hB7 ho7; rw [splice_all _ _ (by rw [L6.out]; rfl)] at hB7))
  have hsz3 := b3.out.size
  have hsz4 := b4.out.size
  refine ret_row rfl rfl hB7 (rowCtl L6.out) rfl ?_
  exact ⟨_, rfl, (O6.out.th ho7.grown (fun p hp => .inl (by injection hp with hp; simp; omega))).mono (by simp; omega),
    (b4.out.trans (b45.out.mono hsz4)).trans (((Only.set w5 w4.heap.size 0 (.int .i64 200)).below hsz4).trans (ho7.below (Nat.le_refl _)))⟩

set_option maxRecDepth 100000 in
set_option maxHeartbeats 1000000 in
theorem packet_names (A : Option Addr) (n c q s : Nat) (bs : List UInt8) (cc : Ctl) (w : World) (ht : Tab w) (hw : 0 < w.heap.size) (hr : RdS w A n c bs) (hn : 4 ≤ n) (hq : q < 32) (hs : s < 256) (h0 : (bs.getD 0 0).toNat = 128 + q) (h1 : (bs.getD 1 0).toNat = s) (hk : kindN s q = 202) (hB : BodyIs 58 q (bs.drop 4) cc) :
    Calls Tryd.prog 37 #[.slice A n c] w fun r w' => ∃ cs, r = .returned (.agg cs.toArray) ∧ OwnC w' w.heap.size cs { cc with k := 202 } ∧ Below w.heap.size w w' := by
  have hz := zeroCtl
  obtain ⟨b, off, rfl, hlt, hcl⟩ := hr.2.2.2.2 (by omega)
  have c0 := hcl 0 (by omega)
  have c1 := hcl 1 (by omega)
  rw [h0] at c0
  rw [h1] at c1
  have hs2 := hr.small
  have hle := hr.le
  obtain ⟨X, hX⟩ : ∃ X, X = 128 + q := ⟨_, rfl⟩
  rw [← hX] at c0
  have e1 : (X : Int) / 32 = 4 := hX ▸ (head_u8 q hq).1
  have e2 : bits .and .u8 (X : Int) 31 = (q : Int) := hX ▸ (head_u8 q hq).2
  have e3 : IntKind.i64.wrap (q : Int) = (q : Int) := by rw [IntKind.wrap_i64]; omega
  have e4 : IntKind.i64.wrap (s : Int) = (s : Int) := by rw [IntKind.wrap_i64]; omega
  have HR := Lib.hid hr
  have HT := Lib.hid ht
  have HK := Lib.hid hk
  have HB : Hid (∀ g w, Rdr w g q (bs.drop 4) → Calls Tryd.prog 58 #[.pointer (some ⟨g, 0, none⟩)] w fun r w' => ∃ cs, r = .returned (.agg cs.toArray) ∧ OwnC w' w.heap.size cs cc ∧ Rdr w' g q [] ∧ w.grownBy w' (some g)) := Lib.hid hB.2
  have bw : Hid (Below w.heap.size w (w.alloc (.cells zA 50))) := Lib.hid ((Below.refl _ _).alloc (Nat.le_refl _) _)
  have d0 : (w.alloc (.cells zA 50)).cell? ⟨b, off, none⟩ = some (.int .u8 (X : Int)) := (bw.out.cell (p := ⟨b, off, none⟩) hlt).trans c0
  have d1 : (w.alloc (.cells zA 50)).cell? ⟨b, off + 1, none⟩ = some (.int .u8 (s : Int)) := (bw.out.cell (p := ⟨b, off + 1, none⟩) hlt).trans c1
  have KN : Hid (∀ W, Below w.heap.size w W → Calls Tryd.prog 51 #[.int .i64 (s : Int), .int .i64 (q : Int)] W fun e w' => e = .returned (.int .i64 202) ∧ Below W.heap.size W w') := Lib.hid fun W hW => by
    have := kindOf_any s q s q rfl rfl W (HT.out.below hW hw) (Nat.lt_of_lt_of_le hw hW.size) hs hq
    rw [HK.out] at this
    exact this
  have BW : Hid (BlkV (w.alloc (.cells zA 50)) w.heap.size 50 zCtl) := Lib.hid (BlkV.new _ _ _)
  clear hcl c0 c1 hX hr ht hk hB h0 h1 hs
  go_enter Tryd.func37, Tryd.ntmps37
  go_wp2_with (first
    | (go_at_call 24; ((with_reducible refine (refuse_no _ _ _ ?_).mono ?_); (first | rfl | simp); rintro e wx ⟨rfl, rfl⟩))
    | (go_at_call 51; ((with_reducible refine (Hid.out KN _ bw.out).mono ?_); rintro e w2 ⟨rfl, hb2⟩; have b2 : Hid (Below w.heap.size w w2) := Lib.hid (bw.out.trans (hb2.mono bw.out.size)); have p2 := Lib.hid (BW.out.below hb2 BW.out.lt); clear hb2))
    | (go_at_call 52; ((with_reducible refine (bodies_any _).mono ?_); rintro e w3 ⟨rfl, hm3, hb3⟩; have b3 : Hid (Below w.heap.size w w3) := Lib.hid (b2.out.trans (hb3.mono b2.out.size)); have p3 := Lib.hid (p2.out.below hb3 p2.out.lt); have hlk := run_lkp w3 _ ent8 8 202 2 (.func (.func 58) #[] #[]) hm3 rfl rfl; clear hb3 hm3))
    | ((with_reducible refine wpList_cut rfl 25 (.tmp 36) (.const (.int .i64 4)) rfl undB szB (some ⟨b, off, none⟩) n c bs rfl 4 _ rfl rfl (HR.out.below b3.out) hn ?_); intro A2 hR2 hO2; have R3 := Lib.hid hR2; clear hR2 hO2)
    | (go_at_call 58; ((with_reducible refine (Hid.out HB w3.heap.size _ (new_rdr w3 q A2 (n - 4) (c - 4) _ R3.out)).mono ?_); rintro e w4 ⟨cs, rfl, hoc, hrd, hg4⟩; have O4 := Lib.hid hoc; have p4 := Lib.hid ((p3.out.alloc (.cells #[.int .i64 (q : Int), .slice A2 (n - 4) (c - 4)] 99)).grown hg4 (by have := p3.out.lt; intro e; injection e with e; omega)); have b4 : Hid (Below w.heap.size w w4) := Lib.hid ((b3.out.alloc b3.out.size _).grown hg4 (by simp; have := b3.out.size; omega) (fun p hp => by injection hp with hp; have := b3.out.size; omega)); have D4 := Lib.hid hrd; have hf13 := Lib.hid (fit13 hoc.len); clear hoc hrd hg4))
    | ((refine wpList_st rfl 50 (.tmp 8) (.tmp 40) rfl w4.heap.size 0 cs rfl rfl 50 zCtl (BlkV.new w4 _ _) hf13.out (rowCtl O4.out.len) O4.out.one ?_); intro w5 hB5 ho5; rw [splice_all _ _ (by rw [O4.out.len]; rfl)] at hB5; have B5 := Lib.hid hB5; have b45 : Hid (Below w4.heap.size w4 w5) := Lib.hid (((Below.refl _ _).alloc (Nat.le_refl _) _).trans (ho5.below (Nat.le_refl _))); obtain ⟨Ax, cx, hrest⟩ := (D4.out.below b45.out).none; have hfz := hB5.frozen 0; have cz := (hB5.cell 0).trans O4.out.k0; have O5 := Lib.hid (O4.out.below b45.out); have p5 := Lib.hid (p4.out.below b45.out p4.out.lt); have B6 := Lib.hid (B5.out.set_ 0 (.int .i64 202)); have R6 := Lib.hid (B6.out.range 0 (cs.set 0 (.int .i64 202)) (fun i _ => by rw [Nat.zero_add])); have L6 : Hid ((cs.set 0 (.int .i64 202)).length = 13) := Lib.hid (by rw [List.length_set]; exact O4.out.len); have O6 := Lib.hid ((O5.out.th (Only.set w5 w4.heap.size 0 (.int .i64 202)).grown (fun p hp => .inr ⟨_, _, by injection hp with hp; subst hp; exact B5.out⟩)).kind 202); have p6 := Lib.hid (p5.out.far (p := ⟨w4.heap.size, 0, none⟩) (by have := p4.out.lt; show w.heap.size ≠ w4.heap.size; omega) (.int .i64 202)); have F6 := Lib.hid (fit13 L6.out); have N6 := Lib.hid O6.out.one; clear hB5 ho5)
    | (with_reducible refine wpList_ld rfl 50 (.tmp 8) rfl w4.heap.size 0 rfl (cs.set 0 (.int .i64 202)) R6.out (rowCtl L6.out) ?_)
    | ((refine wpList_st rfl 50 (.tmp 2) (.tmp 48) rfl w.heap.size 0 (cs.set 0 (.int .i64 202)) rfl rfl 50 zCtl p6.out F6.out (rowCtl L6.out) N6.out ?_); intro w7 hB7 ho7; rw [splice_all _ _ (by rw [L6.out]; rfl)] at hB7))
  have hsz3 := b3.out.size
  have hsz4 := b4.out.size
  refine ret_row rfl rfl hB7 (rowCtl L6.out) rfl ?_
  exact ⟨_, rfl, (O6.out.th ho7.grown (fun p hp => .inl (by injection hp with hp; simp; omega))).mono (by simp; omega),
    (b4.out.trans (b45.out.mono hsz4)).trans (((Only.set w5 w4.heap.size 0 (.int .i64 202)).below hsz4).trans (ho7.below (Nat.le_refl _)))⟩

set_option maxRecDepth 100000 in
set_option maxHeartbeats 1000000 in
theorem packet_bye (A : Option Addr) (n c q s : Nat) (bs : List UInt8) (cc : Ctl) (w : World) (ht : Tab w) (hw : 0 < w.heap.size) (hr : RdS w A n c bs) (hn : 4 ≤ n) (hq : q < 32) (hs : s < 256) (h0 : (bs.getD 0 0).toNat = 128 + q) (h1 : (bs.getD 1 0).toNat = s) (hk : kindN s q = 203) (hB : BodyIs 59 q (bs.drop 4) cc) :
    Calls Tryd.prog 37 #[.slice A n c] w fun r w' => ∃ cs, r = .returned (.agg cs.toArray) ∧ OwnC w' w.heap.size cs { cc with k := 203 } ∧ Below w.heap.size w w' := by
  have hz := zeroCtl
  obtain ⟨b, off, rfl, hlt, hcl⟩ := hr.2.2.2.2 (by omega)
  have c0 := hcl 0 (by omega)
  have c1 := hcl 1 (by omega)
  rw [h0] at c0
  rw [h1] at c1
  have hs2 := hr.small
  have hle := hr.le
  obtain ⟨X, hX⟩ : ∃ X, X = 128 + q := ⟨_, rfl⟩
  rw [← hX] at c0
  have e1 : (X : Int) / 32 = 4 := hX ▸ (head_u8 q hq).1
  have e2 : bits .and .u8 (X : Int) 31 = (q : Int) := hX ▸ (head_u8 q hq).2
  have e3 : IntKind.i64.wrap (q : Int) = (q : Int) := by rw [IntKind.wrap_i64]; omega
  have e4 : IntKind.i64.wrap (s : Int) = (s : Int) := by rw [IntKind.wrap_i64]; omega
  have HR := Lib.hid hr
  have HT := Lib.hid ht
  have HK := Lib.hid hk
  have HB : Hid (∀ g w, Rdr w g q (bs.drop 4) → Calls Tryd.prog 59 #[.pointer (some ⟨g, 0, none⟩)] w fun r w' => ∃ cs, r = .returned (.agg cs.toArray) ∧ OwnC w' w.heap.size cs cc ∧ Rdr w' g q [] ∧ w.grownBy w' (some g)) := Lib.hid hB.2
  have bw : Hid (Below w.heap.size w (w.alloc (.cells zA 50))) := Lib.hid ((Below.refl _ _).alloc (Nat.le_refl _) _)
  have d0 : (w.alloc (.cells zA 50)).cell? ⟨b, off, none⟩ = some (.int .u8 (X : Int)) := (bw.out.cell (p := ⟨b, off, none⟩) hlt).trans c0
  have d1 : (w.alloc (.cells zA 50)).cell? ⟨b, off + 1, none⟩ = some (.int .u8 (s : Int)) := (bw.out.cell (p := ⟨b, off + 1, none⟩) hlt).trans c1
  have KN : Hid (∀ W, Below w.heap.size w W → Calls Tryd.prog 51 #[.int .i64 (s : Int), .int .i64 (q : Int)] W fun e w' => e = .returned (.int .i64 203) ∧ Below W.heap.size W w') := Lib.hid fun W hW => by
    have := kindOf_any s q s q rfl rfl W (HT.out.below hW hw) (Nat.lt_of_lt_of_le hw hW.size) hs hq
    rw [HK.out] at this
    exact this
  have BW : Hid (BlkV (w.alloc (.cells zA 50)) w.heap.size 50 zCtl) := Lib.hid (BlkV.new _ _ _)
  clear hcl c0 c1 hX hr ht hk hB h0 h1 hs
  go_enter Tryd.func37, Tryd.ntmps37
  go_wp2_with (first
    | (go_at_call 24; ((with_reducible refine (refuse_no _ _ _ ?_).mono ?_); (first | rfl | simp); rintro e wx ⟨rfl, rfl⟩))
    | (go_at_call 51; ((with_reducible refine (Hid.out KN _ bw.out).mono ?_); rintro e w2 ⟨rfl, hb2⟩; have b2 : Hid (Below w.heap.size w w2) := Lib.hid (bw.out.trans (hb2.mono bw.out.size)); have p2 := Lib.hid (BW.out.below hb2 BW.out.lt); clear hb2))
    | (go_at_call 52; ((with_reducible refine (bodies_any _).mono ?_); rintro e w3 ⟨rfl, hm3, hb3⟩; have b3 : Hid (Below w.heap.size w w3) := Lib.hid (b2.out.trans (hb3.mono b2.out.size)); have p3 := Lib.hid (p2.out.below hb3 p2.out.lt); have hlk := run_lkp w3 _ ent8 8 203 3 (.func (.func 59) #[] #[]) hm3 rfl rfl; clear hb3 hm3))
    | ((with_reducible refine wpList_cut rfl 25 (.tmp 36) (.const (.int .i64 4)) rfl undB szB (some ⟨b, off, none⟩) n c bs rfl 4 _ rfl rfl (HR.out.below b3.out) hn ?_); intro A2 hR2 hO2; have R3 := Lib.hid hR2; clear hR2 hO2)
    | (go_at_call 59; ((with_reducible refine (Hid.out HB w3.heap.size _ (new_rdr w3 q A2 (n - 4) (c - 4) _ R3.out)).mono ?_); rintro e w4 ⟨cs, rfl, hoc, hrd, hg4⟩; have O4 := Lib.hid hoc; have p4 := Lib.hid ((p3.out.alloc (.cells #[.int .i64 (q : Int), .slice A2 (n - 4) (c - 4)] 99)).grown hg4 (by have := p3.out.lt; intro e; injection e with e; omega)); have b4 : Hid (Below w.heap.size w w4) := Lib.hid ((b3.out.alloc b3.out.size _).grown hg4 (by simp; have := b3.out.size; omega) (fun p hp => by injection hp with hp; have := b3.out.size; omega)); have D4 := Lib.hid hrd; have hf13 := Lib.hid (fit13 hoc.len); clear hoc hrd hg4))
    | ((refine wpList_st rfl 50 (.tmp 8) (.tmp 40) rfl w4.heap.size 0 cs rfl rfl 50 zCtl (BlkV.new w4 _ _) hf13.out (rowCtl O4.out.len) O4.out.one ?_); intro w5 hB5 ho5; rw [splice_all _ _ (by rw [O4.out.len]; rfl)] at hB5; have B5 := Lib.hid hB5; have b45 : Hid (Below w4.heap.size w4 w5) := Lib.hid (((Below.refl _ _).alloc (Nat.le_refl _) _).trans (ho5.below (Nat.le_refl _))); obtain ⟨Ax, cx, hrest⟩ := (D4.out.below b45.out).none; have hfz := hB5.frozen 0; have cz := (hB5.cell 0).trans O4.out.k0; have O5 := Lib.hid (O4.out.below b45.out); have p5 := Lib.hid (p4.out.below b45.out p4.out.lt); have B6 := Lib.hid (B5.out.set_ 0 (.int .i64 203)); have R6 := Lib.hid (B6.out.range 0 (cs.set 0 (.int .i64 203)) (fun i _ => by rw [Nat.zero_add])); have L6 : Hid ((cs.set 0 (.int .i64 203)).length = 13) := Lib.hid (by rw [List.length_set]; exact O4.out.len); have O6 := Lib.hid ((O5.out.th (Only.set w5 w4.heap.size 0 (.int .i64 203)).grown (fun p hp => .inr ⟨_, _, by injection hp with hp; subst hp; exact B5.out⟩)).kind 203); have p6 := Lib.hid (p5.out.far (p := ⟨w4.heap.size, 0, none⟩) (by have := p4.out.lt; show w.heap.size ≠ w4.heap.size; omega) (.int .i64 203)); have F6 := Lib.hid (fit13 L6.out); have N6 := Lib.hid O6.out.one; clear hB5 ho5)
    | (with_reducible refine wpList_ld rfl 50 (.tmp 8) rfl w4.heap.size 0 rfl (cs.set 0 (.int .i64 203)) R6.out (rowCtl L6.out) ?_)
    | ((refine wpList_st rfl 50 (.tmp 2) (.tmp 48) rfl w.heap.size 0 (cs.set 0 (.int .i64 203)) rfl rfl 50 zCtl p6.out F6.out (rowCtl L6.out) N6.out ?_); intro w7 hB7 ho7; rw [splice_all _ _ (by rw [L6.out]; rfl)] at hB7))
  have hsz3 := b3.out.size
  have hsz4 := b4.out.size
  refine ret_row rfl rfl hB7 (rowCtl L6.out) rfl ?_
  exact ⟨_, rfl, (O6.out.th ho7.grown (fun p hp => .inl (by injection hp with hp; simp; omega))).mono (by simp; omega),
    (b4.out.trans (b45.out.mono hsz4)).trans (((Only.set w5 w4.heap.size 0 (.int .i64 203)).below hsz4).trans (ho7.below (Nat.le_refl _)))⟩

set_option maxRecDepth 100000 in
set_option maxHeartbeats 1000000 in
theorem packet_nack (A : Option Addr) (n c q s : Nat) (bs : List UInt8) (cc : Ctl) (w : World) (ht : Tab w) (hw : 0 < w.heap.size) (hr : RdS w A n c bs) (hn : 4 ≤ n) (hq : q < 32) (hs : s < 256) (h0 : (bs.getD 0 0).toNat = 128 + q) (h1 : (bs.getD 1 0).toNat = s) (hk : kindN s q = 1) (hB : BodyIs 60 q (bs.drop 4) cc) :
    Calls Tryd.prog 37 #[.slice A n c] w fun r w' => ∃ cs, r = .returned (.agg cs.toArray) ∧ OwnC w' w.heap.size cs { cc with k := 1 } ∧ Below w.heap.size w w' := by
  have hz := zeroCtl
  obtain ⟨b, off, rfl, hlt, hcl⟩ := hr.2.2.2.2 (by omega)
  have c0 := hcl 0 (by omega)
  have c1 := hcl 1 (by omega)
  rw [h0] at c0
  rw [h1] at c1
  have hs2 := hr.small
  have hle := hr.le
  obtain ⟨X, hX⟩ : ∃ X, X = 128 + q := ⟨_, rfl⟩
  rw [← hX] at c0
  have e1 : (X : Int) / 32 = 4 := hX ▸ (head_u8 q hq).1
  have e2 : bits .and .u8 (X : Int) 31 = (q : Int) := hX ▸ (head_u8 q hq).2
  have e3 : IntKind.i64.wrap (q : Int) = (q : Int) := by rw [IntKind.wrap_i64]; omega
  have e4 : IntKind.i64.wrap (s : Int) = (s : Int) := by rw [IntKind.wrap_i64]; omega
  have HR := Lib.hid hr
  have HT := Lib.hid ht
  have HK := Lib.hid hk
  have HB : Hid (∀ g w, Rdr w g q (bs.drop 4) → Calls Tryd.prog 60 #[.pointer (some ⟨g, 0, none⟩)] w fun r w' => ∃ cs, r = .returned (.agg cs.toArray) ∧ OwnC w' w.heap.size cs cc ∧ Rdr w' g q [] ∧ w.grownBy w' (some g)) := Lib.hid hB.2
  have bw : Hid (Below w.heap.size w (w.alloc (.cells zA 50))) := Lib.hid ((Below.refl _ _).alloc (Nat.le_refl _) _)
  have d0 : (w.alloc (.cells zA 50)).cell? ⟨b, off, none⟩ = some (.int .u8 (X : Int)) := (bw.out.cell (p := ⟨b, off, none⟩) hlt).trans c0
  have d1 : (w.alloc (.cells zA 50)).cell? ⟨b, off + 1, none⟩ = some (.int .u8 (s : Int)) := (bw.out.cell (p := ⟨b, off + 1, none⟩) hlt).trans c1
  have KN : Hid (∀ W, Below w.heap.size w W → Calls Tryd.prog 51 #[.int .i64 (s : Int), .int .i64 (q : Int)] W fun e w' => e = .returned (.int .i64 1) ∧ Below W.heap.size W w') := Lib.hid fun W hW => by
    have := kindOf_any s q s q rfl rfl W (HT.out.below hW hw) (Nat.lt_of_lt_of_le hw hW.size) hs hq
    rw [HK.out] at this
    exact this
  have BW : Hid (BlkV (w.alloc (.cells zA 50)) w.heap.size 50 zCtl) := Lib.hid (BlkV.new _ _ _)
  clear hcl c0 c1 hX hr ht hk hB h0 h1 hs
  go_enter Tryd.func37, Tryd.ntmps37
  go_wp2_with (first
    | (go_at_call 24; ((with_reducible refine (refuse_no _ _ _ ?_).mono ?_); (first | rfl | simp); rintro e wx ⟨rfl, rfl⟩))
    | (go_at_call 51; ((with_reducible refine (Hid.out KN _ bw.out).mono ?_); rintro e w2 ⟨rfl, hb2⟩; have b2 : Hid (Below w.heap.size w w2) := Lib.hid (bw.out.trans (hb2.mono bw.out.size)); have p2 := Lib.hid (BW.out.below hb2 BW.out.lt); clear hb2))
    | (go_at_call 52; ((with_reducible refine (bodies_any _).mono ?_); rintro e w3 ⟨rfl, hm3, hb3⟩; have b3 : Hid (Below w.heap.size w w3) := Lib.hid (b2.out.trans (hb3.mono b2.out.size)); have p3 := Lib.hid (p2.out.below hb3 p2.out.lt); have hlk := run_lkp w3 _ ent8 8 1 4 (.func (.func 60) #[] #[]) hm3 rfl rfl; clear hb3 hm3))
    | ((with_reducible refine wpList_cut rfl 25 (.tmp 36) (.const (.int .i64 4)) rfl undB szB (some ⟨b, off, none⟩) n c bs rfl 4 _ rfl rfl (HR.out.below b3.out) hn ?_); intro A2 hR2 hO2; have R3 := Lib.hid hR2; clear hR2 hO2)
    | (go_at_call 60; ((with_reducible refine (Hid.out HB w3.heap.size _ (new_rdr w3 q A2 (n - 4) (c - 4) _ R3.out)).mono ?_); rintro e w4 ⟨cs, rfl, hoc, hrd, hg4⟩; have O4 := Lib.hid hoc; have p4 := Lib.hid ((p3.out.alloc (.cells #[.int .i64 (q : Int), .slice A2 (n - 4) (c - 4)] 99)).grown hg4 (by have := p3.out.lt; intro e; injection e with e; omega)); have b4 : Hid (Below w.heap.size w w4) := Lib.hid ((b3.out.alloc b3.out.size _).grown hg4 (by simp; have := b3.out.size; omega) (fun p hp => by injection hp with hp; have := b3.out.size; omega)); have D4 := Lib.hid hrd; have hf13 := Lib.hid (fit13 hoc.len); clear hoc hrd hg4))
    | ((refine wpList_st rfl 50 (.tmp 8) (.tmp 40) rfl w4.heap.size 0 cs rfl rfl 50 zCtl (BlkV.new w4 _ _) hf13.out (rowCtl O4.out.len) O4.out.one ?_); intro w5 hB5 ho5; rw [splice_all _ _ (by rw [O4.out.len]; rfl)] at hB5; have B5 := Lib.hid hB5; have b45 : Hid (Below w4.heap.size w4 w5) := Lib.hid (((Below.refl _ _).alloc (Nat.le_refl _) _).trans (ho5.below (Nat.le_refl _))); obtain ⟨Ax, cx, hrest⟩ := (D4.out.below b45.out).none; have hfz := hB5.frozen 0; have cz := (hB5.cell 0).trans O4.out.k0; have O5 := Lib.hid (O4.out.below b45.out); have p5 := Lib.hid (p4.out.below b45.out p4.out.lt); have B6 := Lib.hid (B5.out.set_ 0 (.int .i64 1)); have R6 := Lib.hid (B6.out.range 0 (cs.set 0 (.int .i64 1)) (fun i _ => by rw [Nat.zero_add])); have L6 : Hid ((cs.set 0 (.int .i64 1)).length = 13) := Lib.hid (by rw [List.length_set]; exact O4.out.len); have O6 := Lib.hid ((O5.out.th (Only.set w5 w4.heap.size 0 (.int .i64 1)).grown (fun p hp => .inr ⟨_, _, by injection hp with hp; subst hp; exact B5.out⟩)).kind 1); have p6 := Lib.hid (p5.out.far (p := ⟨w4.heap.size, 0, none⟩) (by have := p4.out.lt; show w.heap.size ≠ w4.heap.size; omega) (.int .i64 1)); have F6 := Lib.hid (fit13 L6.out); have N6 := Lib.hid O6.out.one; clear hB5 ho5)
    | (with_reducible refine wpList_ld rfl 50 (.tmp 8) rfl w4.heap.size 0 rfl (cs.set 0 (.int .i64 1)) R6.out (rowCtl L6.out) ?_)
    | ((refine wpList_st rfl 50 (.tmp 2) (.tmp 48) rfl w.heap.size 0 (cs.set 0 (.int .i64 1)) rfl rfl 50 zCtl p6.out F6.out (rowCtl L6.out) N6.out ?_); intro w7 hB7 ho7; rw [splice_all _ _ (by rw [L6.out]; rfl)] at hB7))
  have hsz3 := b3.out.size
  have hsz4 := b4.out.size
  refine ret_row rfl rfl hB7 (rowCtl L6.out) rfl ?_
  exact ⟨_, rfl, (O6.out.th ho7.grown (fun p hp => .inl (by injection hp with hp; simp; omega))).mono (by simp; omega),
    (b4.out.trans (b45.out.mono hsz4)).trans (((Only.set w5 w4.heap.size 0 (.int .i64 1)).below hsz4).trans (ho7.below (Nat.le_refl _)))⟩

end Go.Proofs.YtacaempcbdekaaaDoor

namespace Go.Proofs.YtacaempcbdekaaaDoor
open Go.RowKit
set_option linter.unusedVariables false

set_option maxRecDepth 100000 in
set_option maxHeartbeats 1000000 in
theorem packet_pli (A : Option Addr) (n c q s : Nat) (bs : List UInt8) (cc : Ctl) (w : World) (ht : Tab w) (hw : 0 < w.heap.size) (hr : RdS w A n c bs) (hn : 4 ≤ n) (hq : q < 32) (hs : s < 256) (h0 : (bs.getD 0 0).toNat = 128 + q) (h1 : (bs.getD 1 0).toNat = s) (hk : kindN s q = 2) (hB : BodyIs 61 q (bs.drop 4) cc) :
    Calls Tryd.prog 37 #[.slice A n c] w fun r w' => ∃ cs, r = .returned (.agg cs.toArray) ∧ OwnC w' w.heap.size cs { cc with k := 2 } ∧ Below w.heap.size w w' := by
  have hz := zeroCtl
  obtain ⟨b, off, rfl, hlt, hcl⟩ := hr.2.2.2.2 (by omega)
  have c0 := hcl 0 (by omega)
  have c1 := hcl 1 (by omega)
  rw [h0] at c0
  rw [h1] at c1
  have hs2 := hr.small
  have hle := hr.le
  obtain ⟨X, hX⟩ : ∃ X, X = 128 + q := ⟨_, rfl⟩
  rw [← hX] at c0
  have e1 : (X : Int) / 32 = 4 := hX ▸ (head_u8 q hq).1
  have e2 : bits .and .u8 (X : Int) 31 = (q : Int) := hX ▸ (head_u8 q hq).2
  have e3 : IntKind.i64.wrap (q : Int) = (q : Int) := by rw [IntKind.wrap_i64]; omega
  have e4 : IntKind.i64.wrap (s : Int) = (s : Int) := by rw [IntKind.wrap_i64]; omega
  have HR := Lib.hid hr
  have HT := Lib.hid ht
  have HK := Lib.hid hk
  have HB : Hid (∀ g w, Rdr w g q (bs.drop 4) → Calls Tryd.prog 61 #[.pointer (some ⟨g, 0, none⟩)] w fun r w' => ∃ cs, r = .returned (.agg cs.toArray) ∧ OwnC w' w.heap.size cs cc ∧ Rdr w' g q [] ∧ w.grownBy w' (some g)) := Lib.hid hB.2
  have bw : Hid (Below w.heap.size w (w.alloc (.cells zA 50))) := Lib.hid ((Below.refl _ _).alloc (Nat.le_refl _) _)
  have d0 : (w.alloc (.cells zA 50)).cell? ⟨b, off, none⟩ = some (.int .u8 (X : Int)) := (bw.out.cell (p := ⟨b, off, none⟩) hlt).trans c0
  have d1 : (w.alloc (.cells zA 50)).cell? ⟨b, off + 1, none⟩ = some (.int .u8 (s : Int)) := (bw.out.cell (p := ⟨b, off + 1, none⟩) hlt).trans c1
  have KN : Hid (∀ W, Below w.heap.size w W → Calls Tryd.prog 51 #[.int .i64 (s : Int), .int .i64 (q : Int)] W fun e w' => e = .returned (.int .i64 2) ∧ Below W.heap.size W w') := Lib.hid fun W hW => by
    have := kindOf_any s q s q rfl rfl W (HT.out.below hW hw) (Nat.lt_of_lt_of_le hw hW.size) hs hq
    rw [HK.out] at this
    exact this
  have BW : Hid (BlkV (w.alloc (.cells zA 50)) w.heap.size 50 zCtl) := Lib.hid (BlkV.new _ _ _)
  clear hcl c0 c1 hX hr ht hk hB h0 h1 hs
  go_enter Tryd.func37, Tryd.ntmps37
  go_wp2_with (first
    | (go_at_call 24; ((with_reducible refine (refuse_no _ _ _ ?_).mono ?_); (first | rfl | simp); rintro e wx ⟨rfl, rfl⟩))
    | (go_at_call 51; ((with_reducible refine (Hid.out KN _ bw.out).mono ?_); rintro e w2 ⟨rfl, hb2⟩; have b2 : Hid (Below w.heap.size w w2) := Lib.hid (bw.out.trans (hb2.mono bw.out.size)); have p2 := Lib.hid (BW.out.below hb2 BW.out.lt); clear hb2))
    | (go_at_call 52; ((with_reducible refine (bodies_any _).mono ?_); rintro e w3 ⟨rfl, hm3, hb3⟩; have b3 : Hid (Below w.heap.size w w3) := Lib.hid (b2.out.trans (hb3.mono b2.out.size)); have p3 := Lib.hid (p2.out.below hb3 p2.out.lt); have hlk := run_lkp w3 _ ent8 8 2 5 (.func (.func 61) #[] #[]) hm3 rfl rfl; clear hb3 hm3))
    | ((with_reducible refine wpList_cut rfl 25 (.tmp 36) (.const (.int .i64 4)) rfl undB szB (some ⟨b, off, none⟩) n c bs rfl 4 _ rfl rfl (HR.out.below b3.out) hn ?_); intro A2 hR2 hO2; have R3 := Lib.hid hR2; clear hR2 hO2)
    | (go_at_call 61; ((with_reducible refine (Hid.out HB w3.heap.size _ (new_rdr w3 q A2 (n - 4) (c - 4) _ R3.out)).mono ?_); rintro e w4 ⟨cs, rfl, hoc, hrd, hg4⟩; have O4 := Lib.hid hoc; have p4 := Lib.hid ((p3.out.alloc (.cells #[.int .i64 (q : Int), .slice A2 (n - 4) (c - 4)] 99)).grown hg4 (by have := p3.out.lt; intro e; injection e with e; omega)); have b4 : Hid (Below w.heap.size w w4) := Lib.hid ((b3.out.alloc b3.out.size _).grown hg4 (by simp; have := b3.out.size; omega) (fun p hp => by injection hp with hp; have := b3.out.size; omega)); have D4 := Lib.hid hrd; have hf13 := Lib.hid (fit13 hoc.len); clear hoc hrd hg4))
    | ((refine wpList_st rfl 50 (.tmp 8) (.tmp 40) rfl w4.heap.size 0 cs rfl rfl 50 zCtl (BlkV.new w4 _ _) hf13.out (rowCtl O4.out.len) O4.out.one ?_); intro w5 hB5 ho5; rw [splice_all _ _ (by rw [O4.out.len]; rfl)] at hB5; have B5 := Lib.hid hB5; have b45 : Hid (Below w4.heap.size w4 w5) := Lib.hid (((Below.refl _ _).alloc (Nat.le_refl _) _).trans (ho5.below (Nat.le_refl _))); obtain ⟨Ax, cx, hrest⟩ := (D4.out.below b45.out).none; have hfz := hB5.frozen 0; have cz := (hB5.cell 0).trans O4.out.k0; have O5 := Lib.hid (O4.out.below b45.out); have p5 := Lib.hid (p4.out.below b45.out p4.out.lt); have B6 := Lib.hid (B5.out.set_ 0 (.int .i64 2)); have R6 := Lib.hid (B6.out.range 0 (cs.set 0 (.int .i64 2)) (fun i _ => by rw [Nat.zero_add])); have L6 : Hid ((cs.set 0 (.int .i64 2)).length = 13) := Lib.hid (by rw [List.length_set]; exact O4.out.len); have O6 := Lib.hid ((O5.out.th (Only.set w5 w4.heap.size 0 (.int .i64 2)).grown (fun p hp => .inr ⟨_, _, by injection hp with hp; subst hp; exact B5.out⟩)).kind 2); have p6 := Lib.hid (p5.out.far (p := ⟨w4.heap.size, 0, none⟩) (by have := p4.out.lt; show w.heap.size ≠ w4.heap.size; omega) (.int .i64 2)); have F6 := Lib.hid (fit13 L6.out); have N6 := Lib.hid O6.out.one; clear hB5 ho5)
    | (with_reducible refine wpList_ld rfl 50 (.tmp 8) rfl w4.heap.size 0 rfl (cs.set 0 (.int .i64 2)) R6.out (rowCtl L6.out) ?_)
    | ((refine wpList_st rfl 50 (.tmp 2) (.tmp 48) rfl w.heap.size 0 (cs.set 0 (.int .i64 2)) rfl rfl 50 zCtl p6.out F6.out (rowCtl L6.out) N6.out ?_); intro w7 hB7 ho7; rw [splice_all _ _ (by rw [L6.out]; rfl)] at hB7))
  have hsz3 := b3.out.size
  have hsz4 := b4.out.size
  refine ret_row rfl rfl hB7 (rowCtl L6.out) rfl ?_
  exact ⟨_, rfl, (O6.out.th ho7.grown (fun p hp => .inl (by injection hp with hp; simp; omega))).mono (by simp; omega),
    (b4.out.trans (b45.out.mono hsz4)).trans (((Only.set w5 w4.heap.size 0 (.int .i64 2)).below hsz4).trans (ho7.below (Nat.le_refl _)))⟩

set_option maxRecDepth 100000 in
set_option maxHeartbeats 1000000 in
theorem packet_fir (A : Option Addr) (n c q s : Nat) (bs : List UInt8) (cc : Ctl) (w : World) (ht : Tab w) (hw : 0 < w.heap.size) (hr : RdS w A n c bs) (hn : 4 ≤ n) (hq : q < 32) (hs : s < 256) (h0 : (bs.getD 0 0).toNat = 128 + q) (h1 : (bs.getD 1 0).toNat = s) (hk : kindN s q = 3) (hB : BodyIs 62 q (bs.drop 4) cc) :
    Calls Tryd.prog 37 #[.slice A n c] w fun r w' => ∃ cs, r = .returned (.agg cs.toArray) ∧ OwnC w' w.heap.size cs { cc with k := 3 } ∧ Below w.heap.size w w' := by
  have hz := zeroCtl
  obtain ⟨b, off, rfl, hlt, hcl⟩ := hr.2.2.2.2 (by omega)
  have c0 := hcl 0 (by omega)
  have c1 := hcl 1 (by omega)
  rw [h0] at c0
  rw [h1] at c1
  have hs2 := hr.small
  have hle := hr.le
  obtain ⟨X, hX⟩ : ∃ X, X = 128 + q := ⟨_, rfl⟩
  rw [← hX] at c0
  have e1 : (X : Int) / 32 = 4 := hX ▸ (head_u8 q hq).1
  have e2 : bits .and .u8 (X : Int) 31 = (q : Int) := hX ▸ (head_u8 q hq).2
  have e3 : IntKind.i64.wrap (q : Int) = (q : Int) := by rw [IntKind.wrap_i64]; omega
  have e4 : IntKind.i64.wrap (s : Int) = (s : Int) := by rw [IntKind.wrap_i64]; omega
  have HR := Lib.hid hr
  have HT := Lib.hid ht
  have HK := Lib.hid hk
  have HB : Hid (∀ g w, Rdr w g q (bs.drop 4) → Calls Tryd.prog 62 #[.pointer (some ⟨g, 0, none⟩)] w fun r w' => ∃ cs, r = .returned (.agg cs.toArray) ∧ OwnC w' w.heap.size cs cc ∧ Rdr w' g q [] ∧ w.grownBy w' (some g)) := Lib.hid hB.2
  have bw : Hid (Below w.heap.size w (w.alloc (.cells zA 50))) := Lib.hid ((Below.refl _ _).alloc (Nat.le_refl _) _)
  have d0 : (w.alloc (.cells zA 50)).cell? ⟨b, off, none⟩ = some (.int .u8 (X : Int)) := (bw.out.cell (p := ⟨b, off, none⟩) hlt).trans c0
  have d1 : (w.alloc (.cells zA 50)).cell? ⟨b, off + 1, none⟩ = some (.int .u8 (s : Int)) := (bw.out.cell (p := ⟨b, off + 1, none⟩) hlt).trans c1
  have KN : Hid (∀ W, Below w.heap.size w W → Calls Tryd.prog 51 #[.int .i64 (s : Int), .int .i64 (q : Int)] W fun e w' => e = .returned (.int .i64 3) ∧ Below W.heap.size W w') := Lib.hid fun W hW => by
    have := kindOf_any s q s q rfl rfl W (HT.out.below hW hw) (Nat.lt_of_lt_of_le hw hW.size) hs hq
    rw [HK.out] at this
    exact this
  have BW : Hid (BlkV (w.alloc (.cells zA 50)) w.heap.size 50 zCtl) := Lib.hid (BlkV.new _ _ _)
  clear hcl c0 c1 hX hr ht hk hB h0 h1 hs
  go_enter Tryd.func37, Tryd.ntmps37
  go_wp2_with (first
    | (go_at_call 24; ((with_reducible refine (refuse_no _ _ _ ?_).mono ?_); (first | rfl | simp); rintro e wx ⟨rfl, rfl⟩))
    | (go_at_call 51; ((with_reducible refine (Hid.out KN _ bw.out).mono ?_); rintro e w2 ⟨rfl, hb2⟩; have b2 : Hid (Below w.heap.size w w2) := Lib.hid (bw.out.trans (hb2.mono bw.out.size)); have p2 := Lib.hid (BW.out.below hb2 BW.out.lt); clear hb2))
    | (go_at_call 52; ((with_reducible refine (bodies_any _).mono ?_); rintro e w3 ⟨rfl, hm3, hb3⟩; have b3 : Hid (Below w.heap.size w w3) := Lib.hid (b2.out.trans (hb3.mono b2.out.size)); have p3 := Lib.hid (p2.out.below hb3 p2.out.lt); have hlk := run_lkp w3 _ ent8 8 3 6 (.func (.func 62) #[] #[]) hm3 rfl rfl; clear hb3 hm3))
    | ((with_reducible refine wpList_cut rfl 25 (.tmp 36) (.const (.int .i64 4)) rfl undB szB (some ⟨b, off, none⟩) n c bs rfl 4 _ rfl rfl (HR.out.below b3.out) hn ?_); intro A2 hR2 hO2; have R3 := Lib.hid hR2; clear hR2 hO2)
    | (go_at_call 62; ((with_reducible refine (Hid.out HB w3.heap.size _ (new_rdr w3 q A2 (n - 4) (c - 4) _ R3.out)).mono ?_); rintro e w4 ⟨cs, rfl, hoc, hrd, hg4⟩; have O4 := Lib.hid hoc; have p4 := Lib.hid ((p3.out.alloc (.cells #[.int .i64 (q : Int), .slice A2 (n - 4) (c - 4)] 99)).grown hg4 (by have := p3.out.lt; intro e; injection e with e; omega)); have b4 : Hid (Below w.heap.size w w4) := Lib.hid ((b3.out.alloc b3.out.size _).grown hg4 (by simp; have := b3.out.size; omega) (fun p hp => by injection hp with hp; have := b3.out.size; omega)); have D4 := Lib.hid hrd; have hf13 := Lib.hid (fit13 hoc.len); clear hoc hrd hg4))
    | ((refine wpList_st rfl 50 (.tmp 8) (.tmp 40) rfl w4.heap.size 0 cs rfl rfl 50 zCtl (BlkV.new w4 _ _) hf13.out (rowCtl O4.out.len) O4.out.one ?_); intro w5 hB5 ho5; rw [splice_all _ _ (by rw [O4.out.len]; rfl)] at hB5; have B5 := Lib.hid hB5; have b45 : Hid (Below w4.heap.size w4 w5) := Lib.hid (((Below.refl _ _).alloc (Nat.le_refl _) _).trans (ho5.below (Nat.le_refl _))); obtain ⟨Ax, cx, hrest⟩ := (D4.out.below b45.out).none; have hfz := hB5.frozen 0; have cz := (hB5.cell 0).trans O4.out.k0; have O5 := Lib.hid (O4.out.below b45.out); have p5 := Lib.hid (p4.out.below b45.out p4.out.lt); have B6 := Lib.hid (B5.out.set_ 0 (.int .i64 3)); have R6 := Lib.hid (B6.out.range 0 (cs.set 0 (.int .i64 3)) (fun i _ => by rw [Nat.zero_add])); have L6 : Hid ((cs.set 0 (.int .i64 3)).length = 13) := Lib.hid (by rw [List.length_set]; exact O4.out.len); have O6 := Lib.hid ((O5.out.th (Only.set w5 w4.heap.size 0 (.int .i64 3)).grown (fun p hp => .inr ⟨_, _, by injection hp with hp; subst hp; exact B5.out⟩)).kind 3); have p6 := Lib.hid (p5.out.far (p := ⟨w4.heap.size, 0, none⟩) (by have := p4.out.lt; show w.heap.size ≠ w4.heap.size; omega) (.int .i64 3)); have F6 := Lib.hid (fit13 L6.out); have N6 := Lib.hid O6.out.one; clear hB5 ho5)
    | (with_reducible refine wpList_ld rfl 50 (.tmp 8) rfl w4.heap.size 0 rfl (cs.set 0 (.int .i64 3)) R6.out (rowCtl L6.out) ?_)
    | ((refine wpList_st rfl 50 (.tmp 2) (.tmp 48) rfl w.heap.size 0 (cs.set 0 (.int .i64 3)) rfl rfl 50 zCtl p6.out F6.out (rowCtl L6.out) N6.out ?_); intro w7 hB7 ho7; rw [splice_all _ _ (by rw [L6.out]; rfl)] at hB7))
  have hsz3 := b3.out.size
  have hsz4 := b4.out.size
  refine ret_row rfl rfl hB7 (rowCtl L6.out) rfl ?_
  exact ⟨_, rfl, (O6.out.th ho7.grown (fun p hp => .inl (by injection hp with hp; simp; omega))).mono (by simp; omega),
    (b4.out.trans (b45.out.mono hsz4)).trans (((Only.set w5 w4.heap.size 0 (.int .i64 3)).below hsz4).trans (ho7.below (Nat.le_refl _)))⟩

set_option maxRecDepth 100000 in
set_option maxHeartbeats 1000000 in
theorem packet_remb (A : Option Addr) (n c q s : Nat) (bs : List UInt8) (cc : Ctl) (w : World) (ht : Tab w) (hw : 0 < w.heap.size) (hr : RdS w A n c bs) (hn : 4 ≤ n) (hq : q < 32) (hs : s < 256) (h0 : (bs.getD 0 0).toNat = 128 + q) (h1 : (bs.getD 1 0).toNat = s) (hk : kindN s q = 4) (hB : BodyIs 63 q (bs.drop 4) cc) :
    Calls Tryd.prog 37 #[.slice A n c] w fun r w' => ∃ cs, r = .returned (.agg cs.toArray) ∧ OwnC w' w.heap.size cs { cc with k := 4 } ∧ Below w.heap.size w w' := by
  have hz := zeroCtl
  obtain ⟨b, off, rfl, hlt, hcl⟩ := hr.2.2.2.2 (by omega)
  have c0 := hcl 0 (by omega)
  have c1 := hcl 1 (by omega)
  rw [h0] at c0
  rw [h1] at c1
  have hs2 := hr.small
  have hle := hr.le
  obtain ⟨X, hX⟩ : ∃ X, X = 128 + q := ⟨_, rfl⟩
  rw [← hX] at c0
  have e1 : (X : Int) / 32 = 4 := hX ▸ (head_u8 q hq).1
  have e2 : bits .and .u8 (X : Int) 31 = (q : Int) := hX ▸ (head_u8 q hq).2
  have e3 : IntKind.i64.wrap (q : Int) = (q : Int) := by rw [IntKind.wrap_i64]; omega
  have e4 : IntKind.i64.wrap (s : Int) = (s : Int) := by rw [IntKind.wrap_i64]; omega
  have HR := Lib.hid hr
  have HT := Lib.hid ht
  have HK := Lib.hid hk
  have HB : Hid (∀ g w, Rdr w g q (bs.drop 4) → Calls Tryd.prog 63 #[.pointer (some ⟨g, 0, none⟩)] w fun r w' => ∃ cs, r = .returned (.agg cs.toArray) ∧ OwnC w' w.heap.size cs cc ∧ Rdr w' g q [] ∧ w.grownBy w' (some g)) := Lib.hid hB.2
  have bw : Hid (Below w.heap.size w (w.alloc (.cells zA 50))) := Lib.hid ((Below.refl _ _).alloc (Nat.le_refl _) _)
  have d0 : (w.alloc (.cells zA 50)).cell? ⟨b, off, none⟩ = some (.int .u8 (X : Int)) := (bw.out.cell (p := ⟨b, off, none⟩) hlt).trans c0
  have d1 : (w.alloc (.cells zA 50)).cell? ⟨b, off + 1, none⟩ = some (.int .u8 (s : Int)) := (bw.out.cell (p := ⟨b, off + 1, none⟩) hlt).trans c1
  have KN : Hid (∀ W, Below w.heap.size w W → Calls Tryd.prog 51 #[.int .i64 (s : Int), .int .i64 (q : Int)] W fun e w' => e = .returned (.int .i64 4) ∧ Below W.heap.size W w') := Lib.hid fun W hW => by
    have := kindOf_any s q s q rfl rfl W (HT.out.below hW hw) (Nat.lt_of_lt_of_le hw hW.size) hs hq
    rw [HK.out] at this
    exact this
  have BW : Hid (BlkV (w.alloc (.cells zA 50)) w.heap.size 50 zCtl) := Lib.hid (BlkV.new _ _ _)
  clear hcl c0 c1 hX hr ht hk hB h0 h1 hs
  go_enter Tryd.func37, Tryd.ntmps37
  go_wp2_with (first
    | (go_at_call 24; ((with_reducible refine (refuse_no _ _ _ ?_).mono ?_); (first | rfl | simp); rintro e wx ⟨rfl, rfl⟩))
    | (go_at_call 51; ((with_reducible refine (Hid.out KN _ bw.out).mono ?_); rintro e w2 ⟨rfl, hb2⟩; have b2 : Hid (Below w.heap.size w w2) := Lib.hid (bw.out.trans (hb2.mono bw.out.size)); have p2 := Lib.hid (BW.out.below hb2 BW.out.lt); clear hb2))
    | (go_at_call 52; ((with_reducible refine (bodies_any _).mono ?_); rintro e w3 ⟨rfl, hm3, hb3⟩; have b3 : Hid (Below w.heap.size w w3) := Lib.hid (b2.out.trans (hb3.mono b2.out.size)); have p3 := Lib.hid (p2.out.below hb3 p2.out.lt); have hlk := run_lkp w3 _ ent8 8 4 7 (.func (.func 63) #[] #[]) hm3 rfl rfl; clear hb3 hm3))
    | ((with_reducible refine wpList_cut rfl 25 (.tmp 36) (.const (.int .i64 4)) rfl undB szB (some ⟨b, off, none⟩) n c bs rfl 4 _ rfl rfl (HR.out.below b3.out) hn ?_); intro A2 hR2 hO2; have R3 := Lib.hid hR2; clear hR2 hO2)
    | (go_at_call 63; ((with_reducible refine (Hid.out HB w3.heap.size _ (new_rdr w3 q A2 (n - 4) (c - 4) _ R3.out)).mono ?_); rintro e w4 ⟨cs, rfl, hoc, hrd, hg4⟩; have O4 := Lib.hid hoc; have p4 := Lib.hid ((p3.out.alloc (.cells #[.int .i64 (q : Int), .slice A2 (n - 4) (c - 4)] 99)).grown hg4 (by have := p3.out.lt; intro e; injection e with e; omega)); have b4 : Hid (Below w.heap.size w w4) := Lib.hid ((b3.out.alloc b3.out.size _).grown hg4 (by simp; have := b3.out.size; omega) (fun p hp => by injection hp with hp; have := b3.out.size; omega)); have D4 := Lib.hid hrd; have hf13 := Lib.hid (fit13 hoc.len); clear hoc hrd hg4))
    | ((refine wpList_st rfl 50 (.tmp 8) (.tmp 40) rfl w4.heap.size 0 cs rfl rfl 50 zCtl (BlkV.new w4 _ _) hf13.out (rowCtl O4.out.len) O4.out.one ?_); intro w5 hB5 ho5; rw [splice_all _ _ (by rw [O4.out.len]; rfl)] at hB5; have B5 := Lib.hid hB5; have b45 : Hid (Below w4.heap.size w4 w5) := Lib.hid (((Below.refl _ _).alloc (Nat.le_refl _) _).trans (ho5.below (Nat.le_refl _))); obtain ⟨Ax, cx, hrest⟩ := (D4.out.below b45.out).none; have hfz := hB5.frozen 0; have cz := (hB5.cell 0).trans O4.out.k0; have O5 := Lib.hid (O4.out.below b45.out); have p5 := Lib.hid (p4.out.below b45.out p4.out.lt); have B6 := Lib.hid (B5.out.set_ 0 (.int .i64 4)); have R6 := Lib.hid (B6.out.range 0 (cs.set 0 (.int .i64 4)) (fun i _ => by rw [Nat.zero_add])); have L6 : Hid ((cs.set 0 (.int .i64 4)).length = 13) := Lib.hid (by rw [List.length_set]; exact O4.out.len); have O6 := Lib.hid ((O5.out.th (Only.set w5 w4.heap.size 0 (.int .i64 4)).grown (fun p hp => .inr ⟨_, _, by injection hp with hp; subst hp; exact B5.out⟩)).kind 4); have p6 := Lib.hid (p5.out.far (p := ⟨w4.heap.size, 0, none⟩) (by have := p4.out.lt; show w.heap.size ≠ w4.heap.size; omega) (.int .i64 4)); have F6 := Lib.hid (fit13 L6.out); have N6 := Lib.hid O6.out.one; clear hB5 ho5)
    | (with_reducible refine wpList_ld rfl 50 (.tmp 8) rfl w4.heap.size 0 rfl (cs.set 0 (.int .i64 4)) R6.out (rowCtl L6.out) ?_)
    | ((refine wpList_st rfl 50 (.tmp 2) (.tmp 48) rfl w.heap.size 0 (cs.set 0 (.int .i64 4)) rfl rfl 50 zCtl p6.out F6.out (rowCtl L6.out) N6.out ?_); intro w7 hB7 ho7; rw [splice_all _ _ (by rw [L6.out]; rfl)] at hB7))
  have hsz3 := b3.out.size
  have hsz4 := b4.out.size
  refine ret_row rfl rfl hB7 (rowCtl L6.out) rfl ?_
  exact ⟨_, rfl, (O6.out.th ho7.grown (fun p hp => .inl (by injection hp with hp; simp; omega))).mono (by simp; omega),
    (b4.out.trans (b45.out.mono hsz4)).trans (((Only.set w5 w4.heap.size 0 (.int .i64 4)).below hsz4).trans (ho7.below (Nat.le_refl _)))⟩

end Go.Proofs.YtacaempcbdekaaaDoor

namespace Go.Proofs.YtacaempcbdekaaaDoor
open Go.RowKit
set_option linter.unusedVariables false

theorem wr1_facts (c : Ctl) (q s : Nat) (hq : cntC c = q) (hs : typC c = s) (q32 : q < 32) (s256 : s < 256) (h4 : (bodyC c).length % 4 = 0) (hl : (bodyC c).length ≤ 262140) :
    ((wr1 c).getD 0 0).toNat = 128 + q ∧ ((wr1 c).getD 1 0).toNat = s ∧ (wr1 c).drop 4 = bodyC c ∧ numb (((wr1 c).drop 2).take 2) = (bodyC c).length / 4 ∧ (wr1 c).length = 4 + 4 * ((bodyC c).length / 4) := by
  obtain ⟨B, hB⟩ : ∃ B, B = bodyC c := ⟨_, rfl⟩
  have e : wr1 c = [UInt8.ofNat (128 + q)] ++ ([UInt8.ofNat s] ++ (beb 2 (B.length / 4) ++ B)) := by
    unfold wr1
    rw [hq, hs, ← hB, beb_succ 0 (128 + q), beb_succ 0 s]; rfl
  rw [← hB] at h4 hl ⊢
  have l2 := length_beb 2 (B.length / 4)
  rw [e]
  refine ⟨by simp [List.getD]; omega, by simp [List.getD]; omega, ?_, ?_, ?_⟩
  · show (beb 2 (B.length / 4) ++ B).drop 2 = B
    rw [List.drop_left' l2]
  · show numb ((beb 2 (B.length / 4) ++ B).take 2) = _
    rw [List.take_left' l2, numb_beb, Nat.mod_eq_of_lt (by simp only [Nat.reducePow]; omega)]
  · simp [l2]; omega
theorem body_le {α : Type} (f : α → List UInt8) (n : Nat) (L : List α) (h : ∀ x ∈ L, (f x).length ≤ n) (h16 : L.length ≤ 16) : (L.flatMap f).length ≤ n * 16 := Nat.le_trans (flat_le f n L h) (Nat.mul_le_mul_left n h16)
theorem beb4_len (x : Nat) : (beb 4 x).length % 4 = 0 := by rw [length_beb]
theorem nam_le (x : Nat × List UInt8) (h : nameP (txt x.2)) : (namB x).length ≤ 26 := by
  have h2 := h.2.1
  have hsz : (txt x.2).size = x.2.length := by simp [txt, ByteArray.size]
  rw [hsz] at h2
  rw [namB_len]; unfold zb; omega

theorem pk_sr (so ti st pa oc : Nat) (L : List Rep) (hso : so < 4294967296) (hti : ti < 18446744073709551616) (hst : st < 4294967296) (hpa : pa < 4294967296) (hoc : oc < 4294967296) (h16 : L.length ≤ 16) (hL : ∀ x ∈ L, x.fit ∧ x.ok) : PacketIs (wr1 (mkSR 200 so ti st pa oc L)) (mkSR 200 so ti st pa oc L) := by
  have hb : bodyC (mkSR 200 so ti st pa oc L) = bSR so ti st pa oc L := rfl
  have h4 : (bodyC (mkSR 200 so ti st pa oc L)).length % 4 = 0 := by
    rw [hb]
    simp only [bSR, List.length_append, length_beb]
    have := flat_four repB (fun x => by rw [repB_len]) L
    omega
  have hl : (bodyC (mkSR 200 so ti st pa oc L)).length ≤ 262140 := by
    rw [hb]
    simp only [bSR, List.length_append, length_beb]
    have := body_le repB 24 L (fun x _ => by rw [repB_len]; omega) h16
    omega
  obtain ⟨f0, f1, f2, f3, f4⟩ := wr1_facts (mkSR 200 so ti st pa oc L) (L.length + 0 + 0) 200 rfl rfl (by omega) (by omega) h4 hl
  refine ⟨⟨_, f3, f4.symm⟩, fun A n cc w ht hw hr => ?_⟩
  have hn := hr.len
  exact packet_sent A n cc (L.length + 0 + 0) 200 (wr1 (mkSR 200 so ti st pa oc L)) (mkSR 0 so ti st pa oc L) w ht hw hr (by omega) (by omega) (by omega) f0 f1 (by simp [kindN]) ⟨rfl, fun g W h => by
    rw [f2, hb] at h
    exact sent_any g _ so ti st pa oc L W hso hti hst hpa hoc hL rfl h16 h⟩

theorem pk_rr (so : Nat) (L : List Rep) (hso : so < 4294967296) (h16 : L.length ≤ 16) (hL : ∀ x ∈ L, x.fit ∧ x.ok) : PacketIs (wr1 (mkRR 201 so L)) (mkRR 201 so L) := by
  have hb : bodyC (mkRR 201 so L) = bRR so L := rfl
  have h4 : (bodyC (mkRR 201 so L)).length % 4 = 0 := by
    rw [hb]
    simp only [bRR, List.length_append, length_beb]
    have := flat_four repB (fun x => by rw [repB_len]) L
    omega
  have hl : (bodyC (mkRR 201 so L)).length ≤ 262140 := by
    rw [hb]
    simp only [bRR, List.length_append, length_beb]
    have := body_le repB 24 L (fun x _ => by rw [repB_len]; omega) h16
    omega
  obtain ⟨f0, f1, f2, f3, f4⟩ := wr1_facts (mkRR 201 so L) (L.length + 0 + 0) 201 rfl rfl (by omega) (by omega) h4 hl
  refine ⟨⟨_, f3, f4.symm⟩, fun A n cc w ht hw hr => ?_⟩
  have hn := hr.len
  exact packet_received A n cc (L.length + 0 + 0) 201 (wr1 (mkRR 201 so L)) (mkRR 0 so L) w ht hw hr (by omega) (by omega) (by omega) f0 f1 (by simp [kindN]) ⟨rfl, fun g W h => by
    rw [f2, hb] at h
    exact received_any g _ so L W hso hL rfl h16 h⟩

theorem pk_sd (L : List (Nat × List UInt8)) (h16 : L.length ≤ 16) (hL : ∀ x ∈ L, x.1 < 4294967296 ∧ nameP (txt x.2)) : PacketIs (wr1 (mkSD 202 L)) (mkSD 202 L) := by
  have hb : bodyC (mkSD 202 L) = bSD L := rfl
  have h4 : (bodyC (mkSD 202 L)).length % 4 = 0 := by
    rw [hb]
    simp only [bSD]
    have := flat_four namB namB_four L
    omega
  have hl : (bodyC (mkSD 202 L)).length ≤ 262140 := by
    rw [hb]
    simp only [bSD]
    have := body_le namB 26 L (fun x hx => nam_le x (hL x hx).2) h16
    omega
  obtain ⟨f0, f1, f2, f3, f4⟩ := wr1_facts (mkSD 202 L) (0 + L.length + 0) 202 rfl rfl (by omega) (by omega) h4 hl
  refine ⟨⟨_, f3, f4.symm⟩, fun A n cc w ht hw hr => ?_⟩
  have hn := hr.len
  exact packet_names A n cc (0 + L.length + 0) 202 (wr1 (mkSD 202 L)) (mkSD 0 L) w ht hw hr (by omega) (by omega) (by omega) f0 f1 (by simp [kindN]) ⟨rfl, fun g W h => by
    rw [f2, hb] at h
    exact names_any g _ L.length L W (by omega) rfl h16 hL h⟩

theorem pk_by (L : List Nat) (h16 : L.length ≤ 16) (hL : ∀ x ∈ L, x < 4294967296) : PacketIs (wr1 (mkBY 203 L)) (mkBY 203 L) := by
  have hb : bodyC (mkBY 203 L) = bBY L := rfl
  have h4 : (bodyC (mkBY 203 L)).length % 4 = 0 := by
    rw [hb]
    simp only [bBY]
    have := flat_four (beb 4) beb4_len L
    omega
  have hl : (bodyC (mkBY 203 L)).length ≤ 262140 := by
    rw [hb]
    simp only [bBY]
    have := body_le (beb 4) 4 L (fun x _ => by rw [length_beb]; omega) h16
    omega
  obtain ⟨f0, f1, f2, f3, f4⟩ := wr1_facts (mkBY 203 L) (0 + 0 + L.length) 203 rfl rfl (by omega) (by omega) h4 hl
  refine ⟨⟨_, f3, f4.symm⟩, fun A n cc w ht hw hr => ?_⟩
  have hn := hr.len
  exact packet_bye A n cc (0 + 0 + L.length) 203 (wr1 (mkBY 203 L)) (mkBY 0 L) w ht hw hr (by omega) (by omega) (by omega) f0 f1 (by simp [kindN]) ⟨rfl, fun g W h => by
    rw [f2, hb] at h
    exact bye_any g _ L.length L W (by omega) rfl h16 hL h⟩

theorem pk_na (so me : Nat) (L : List (Nat × Nat)) (hso : so < 4294967296) (hme : me < 4294967296) (h1 : 1 ≤ L.length) (h16 : L.length ≤ 16) (hL : ∀ x ∈ L, x.1 < 65536 ∧ x.2 < 65536) : PacketIs (wr1 (mkNA 1 so me L)) (mkNA 1 so me L) := by
  have hb : bodyC (mkNA 1 so me L) = bNA so me L := rfl
  have h4 : (bodyC (mkNA 1 so me L)).length % 4 = 0 := by
    rw [hb]
    simp only [bNA, List.length_append, length_beb]
    have := flat_four lossB (fun x => by rw [lossB_len]) L
    omega
  have hl : (bodyC (mkNA 1 so me L)).length ≤ 262140 := by
    rw [hb]
    simp only [bNA, List.length_append, length_beb]
    have := body_le lossB 4 L (fun x _ => by rw [lossB_len]; omega) h16
    omega
  obtain ⟨f0, f1, f2, f3, f4⟩ := wr1_facts (mkNA 1 so me L) (1) 205 rfl rfl (by omega) (by omega) h4 hl
  refine ⟨⟨_, f3, f4.symm⟩, fun A n cc w ht hw hr => ?_⟩
  have hn := hr.len
  exact packet_nack A n cc (1) 205 (wr1 (mkNA 1 so me L)) (mkNA 0 so me L) w ht hw hr (by omega) (by omega) (by omega) f0 f1 (by decide) ⟨rfl, fun g W h => by
    rw [f2, hb] at h
    exact nack_any g _ L.length so me L W hso hme rfl h1 h16 hL h⟩

theorem pk_pl (so me : Nat) (hso : so < 4294967296) (hme : me < 4294967296) : PacketIs (wr1 (mkPL 2 so me)) (mkPL 2 so me) := by
  have hb : bodyC (mkPL 2 so me) = bPL so me := rfl
  have h4 : (bodyC (mkPL 2 so me)).length % 4 = 0 := by
    rw [hb]
    simp [bPL, length_beb]
  have hl : (bodyC (mkPL 2 so me)).length ≤ 262140 := by
    rw [hb]
    simp [bPL, length_beb]
  obtain ⟨f0, f1, f2, f3, f4⟩ := wr1_facts (mkPL 2 so me) (1) 206 rfl rfl (by omega) (by omega) h4 hl
  refine ⟨⟨_, f3, f4.symm⟩, fun A n cc w ht hw hr => ?_⟩
  have hn := hr.len
  exact packet_pli A n cc (1) 206 (wr1 (mkPL 2 so me)) (mkPL 0 so me) w ht hw hr (by omega) (by omega) (by omega) f0 f1 (by decide) ⟨rfl, fun g W h => by
    rw [f2, hb] at h
    exact pli_any g _ so me W hso hme h⟩

theorem pk_fi (so : Nat) (L : List (Nat × Nat)) (hso : so < 4294967296) (h1 : 1 ≤ L.length) (h16 : L.length ≤ 16) (hL : ∀ x ∈ L, x.1 < 4294967296 ∧ x.2 < 256) : PacketIs (wr1 (mkFI 3 so L)) (mkFI 3 so L) := by
  have hb : bodyC (mkFI 3 so L) = bFI so L := rfl
  have h4 : (bodyC (mkFI 3 so L)).length % 4 = 0 := by
    rw [hb]
    simp only [bFI, List.length_append, length_beb]
    have := flat_four firB (fun x => by rw [firB_len]) L
    omega
  have hl : (bodyC (mkFI 3 so L)).length ≤ 262140 := by
    rw [hb]
    simp only [bFI, List.length_append, length_beb]
    have := body_le firB 8 L (fun x _ => by rw [firB_len]; omega) h16
    omega
  obtain ⟨f0, f1, f2, f3, f4⟩ := wr1_facts (mkFI 3 so L) (4) 206 rfl rfl (by omega) (by omega) h4 hl
  refine ⟨⟨_, f3, f4.symm⟩, fun A n cc w ht hw hr => ?_⟩
  have hn := hr.len
  exact packet_fir A n cc (4) 206 (wr1 (mkFI 3 so L)) (mkFI 0 so L) w ht hw hr (by omega) (by omega) (by omega) f0 f1 (by decide) ⟨rfl, fun g W h => by
    rw [f2, hb] at h
    exact fir_any g _ L.length so L W hso rfl h1 h16 hL h⟩

theorem pk_re (so : Nat) (L : List Nat) (ra : Nat) (hso : so < 4294967296) (h16 : L.length ≤ 16) (hL : ∀ x ∈ L, x < 4294967296) (hra : ra < 9223372036854775808) (hex : rM ra * 2 ^ rE ra = ra) : PacketIs (wr1 (mkRE 4 so L ra)) (mkRE 4 so L ra) := by
  have hb : bodyC (mkRE 4 so L ra) = bRE so L (rM ra) (rE ra) := rfl
  have h4 : (bodyC (mkRE 4 so L ra)).length % 4 = 0 := by
    rw [hb]
    simp only [bRE, List.length_append, length_beb, letB, List.length_cons, List.length_nil]
    have := flat_four (beb 4) beb4_len L
    omega
  have hl : (bodyC (mkRE 4 so L ra)).length ≤ 262140 := by
    rw [hb]
    simp only [bRE, List.length_append, length_beb, letB, List.length_cons, List.length_nil]
    have := body_le (beb 4) 4 L (fun x _ => by rw [length_beb]; omega) h16
    omega
  obtain ⟨f0, f1, f2, f3, f4⟩ := wr1_facts (mkRE 4 so L ra) (15) 206 rfl rfl (by omega) (by omega) h4 hl
  refine ⟨⟨_, f3, f4.symm⟩, fun A n cc w ht hw hr => ?_⟩
  have hn := hr.len
  exact packet_remb A n cc (15) 206 (wr1 (mkRE 4 so L ra)) (mkRE 0 so L ra) w ht hw hr (by omega) (by omega) (by omega) f0 f1 (by decide) ⟨rfl, fun g W h => by
    rw [f2, hb] at h
    exact remb_any g _ L.length so (rM ra) (rE ra) ra L W hso rfl h16 hL (rM_lt ra (by omega)) (by have := rE_lt ra (by omega); omega) hex.symm (by rw [hex]; exact hra) h⟩

/-- What is written of any packet that may be is read as it. -/
theorem pk_any (c : Ctl) (hf : c.fit) (hm : mayC c) : PacketIs (wr1 c) c := by
  obtain ⟨_, f1, f2, f3, f4, f5, f6, fR, fN, fS, fL, fF, f7⟩ := hf
  rcases hm with ⟨so, ti, st, pa, oc, L, rfl, h16, hk⟩ | ⟨so, L, rfl, h16, hk⟩ | ⟨L, rfl, h16, hk⟩ | ⟨L, rfl, h16⟩ | ⟨so, me, L, rfl, h1, h16⟩ | ⟨so, me, rfl⟩ | ⟨so, L, rfl, h1, h16⟩ | ⟨so, L, ra, rfl, h16, hra, hex⟩
  · exact pk_sr so ti st pa oc L f1 f3 f4 f5 f6 h16 (fun x hx => ⟨fR x hx, hk x hx⟩)
  · exact pk_rr so L f1 h16 (fun x hx => ⟨fR x hx, hk x hx⟩)
  · exact pk_sd L h16 (fun x hx => ⟨fN x hx, hk x hx⟩)
  · exact pk_by L h16 fS
  · exact pk_na so me L f1 f2 h1 h16 fL
  · exact pk_pl so me f1 f2
  · exact pk_fi so L f1 h1 h16 fF
  · exact pk_re so L ra f1 h16 fS hra hex
end Go.Proofs.YtacaempcbdekaaaDoor
