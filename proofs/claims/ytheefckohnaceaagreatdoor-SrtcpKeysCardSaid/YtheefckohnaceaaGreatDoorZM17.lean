/- Several texts in one: plain words and walks. No statement is proved here. -/
import Derived.Test.YtheefckohnaceaaGreatDoorZM15
import Derived.Test.YtheefckohnaceaaGreatDoorZM16
import Derived.Test.YtheefckohnaceaaGreatDoorZM12
import Derived.Test.YtheefckohnaceaaGreatDoorZM13
import Derived.Test.YtheefckohnaceaaGreatDoorZM3
import Derived.Test.YtheefckohnaceaaGreatDoorZM0
import Derived.Lib.BitFns
import Derived.Test.YtheefckohnaceaaGreatDoorZM14
namespace Go.Proofs.YtheefckohnaceaaGreatDoor
open Go.RowKit
set_option linter.unusedVariables false




set_option maxRecDepth 100000 in
set_option maxHeartbeats 1000000 in
theorem words_anyC (A : Option Addr) (n c : Nat) (L : List Nat) (w : World) (hn : L.length = n) (hs : n ≤ 1000) (hf : ∀ x ∈ L, x < 4294967296) (h : RdG 1 w A (L.map cSrc)) :
 Calls Tryz.prog 73 #[.slice A n c] w fun e w' => ∃ A' c', e = .returned (.slice A' (L.flatMap (beb 4)).length c') ∧ BO w w' A' (L.flatMap (beb 4)).length c' (L.flatMap (beb 4)) := by
 have HR := Lib.hid h
 have HN := Lib.hid hn
 have HF := Lib.hid hf
 clear h hn hf
 go_enter Tryz.func73, Tryz.ntmps73
 go_wp2
 go_loopw [3, 8] (fun v i wr => ∃ (k M : Nat) (A' : Option Addr) (c' : Nat), k ≤ n ∧ M ≤ 4 * k ∧ i = .int .i64 k ∧ v = .slice A' M c' ∧ Hid (BO w wr A' M c' ((L.take k).flatMap (beb 4)))) (fun _ i _ => n - (intOf i).toNat)
 case atStart => exact ⟨0, 0, none, 0, by omega, by omega, rfl, rfl, Lib.hid (BO.nil w)⟩
 case round =>
  obtain ⟨k, M, A1, c1, hk, hM, rfl, rfl, HL⟩ := hrel
  by_cases hkn : k < n
  · have hkl : k < L.length := by rw [HN.out]; exact hkn
    obtain ⟨b, off, rfl, hat⟩ := HR.out.at_ hkl
    have hxf := HF.out _ (List.getElem_mem hkl)
    have HV := Lib.hid (flat_snoc (beb 4) hkl)
    have HG := Lib.hid (hat wr HL.out.2)
    obtain ⟨x, hx⟩ : ∃ x, x = L[k] := ⟨_, rfl⟩
    rw [← hx] at hxf HV HG
    obtain ⟨T, hT⟩ : ∃ T, T = (L.take k).flatMap (beb 4) := ⟨_, rfl⟩
    rw [← hT] at HV HL
    clear hx hat hT
    have hsz := HL.out.2.size
    have hM6 : M ≤ 4 * 1000 := by omega
    obtain x := x
    have r1 : wr.cell? ⟨b, off + k, none⟩ = some (.int .u32 (x : Int)) := by
     have := HG.out 0 _ rfl
     simpa using this
    have e1 : IntKind.u64.wrap (x : Int) = (x : Int) := by rw [IntKind.wrap_u64]; omega
    go_wp2_with (go_at_call 35; ((with_reducible refine (put_bo w _ A1 M c1 (M + 4) _ 4 x _ _ (by omega) (by omega) (by omega) HL.out (by omega) (by omega) (by omega) (by omega)).mono ?_); rintro e w2 ⟨A2, c2, rfl, hbo, hb⟩; have B2 := Lib.hid hbo; clear hbo hb))
    go_roundw
    case rel => exact ⟨k + 1, M + 4, A2, c2, by omega, by omega, by go_num, rfl, Lib.hid (by rw [HV.out]; exact B2.out)⟩
    case measure => simp [intOf]; omega
  · obtain rfl : k = n := by omega
    rw [show L.take k = L by rw [← HN.out, List.take_length]] at HL
    have hm : M = (L.flatMap (beb 4)).length := HL.out.len.symm
    subst hm
    go_wp2
    go_ret
    exact ⟨A1, c1, rfl, HL.out⟩

set_option maxRecDepth 100000 in
set_option maxHeartbeats 1000000 in
theorem losBytes_any (A : Option Addr) (n c : Nat) (L : List (Nat × Nat)) (w : World) (hn : L.length = n) (hs : n ≤ 1000) (hf : ∀ x ∈ L, x.1 < 65536 ∧ x.2 < 65536) (h : RdG 2 w A (L.map cLos)) :
 Calls Tryz.prog 76 #[.slice A n c] w fun e w' => ∃ A' c', e = .returned (.slice A' (L.flatMap lossB).length c') ∧ BO w w' A' (L.flatMap lossB).length c' (L.flatMap lossB) := by
 have HR := Lib.hid h
 have HN := Lib.hid hn
 have HF := Lib.hid hf
 clear h hn hf
 go_enter Tryz.func76, Tryz.ntmps76
 go_wp2
 go_loopw [3, 8] (fun v i wr => ∃ (k M : Nat) (A' : Option Addr) (c' : Nat), k ≤ n ∧ M ≤ 4 * k ∧ i = .int .i64 k ∧ v = .slice A' M c' ∧ Hid (BO w wr A' M c' ((L.take k).flatMap lossB))) (fun _ i _ => n - (intOf i).toNat)
 case atStart => exact ⟨0, 0, none, 0, by omega, by omega, rfl, rfl, Lib.hid (BO.nil w)⟩
 case round =>
  obtain ⟨k, M, A1, c1, hk, hM, rfl, rfl, HL⟩ := hrel
  by_cases hkn : k < n
  · have hkl : k < L.length := by rw [HN.out]; exact hkn
    obtain ⟨b, off, rfl, hat⟩ := HR.out.at_ hkl
    have hxf := HF.out _ (List.getElem_mem hkl)
    have HV := Lib.hid (flat_snoc lossB hkl)
    have HG := Lib.hid (hat wr HL.out.2)
    obtain ⟨x, hx⟩ : ∃ x, x = L[k] := ⟨_, rfl⟩
    rw [← hx] at hxf HV HG
    obtain ⟨T, hT⟩ : ∃ T, T = (L.take k).flatMap lossB := ⟨_, rfl⟩
    rw [← hT] at HV HL
    clear hx hat hT
    have hsz := HL.out.2.size
    have hM6 : M ≤ 4 * 1000 := by omega
    obtain ⟨s, q⟩ := x
    have e1 : IntKind.u64.wrap (s : Int) = (s : Int) := by rw [IntKind.wrap_u64]; have := hxf.1; simp only at this; omega
    have e2 : IntKind.u64.wrap (q : Int) = (q : Int) := by rw [IntKind.wrap_u64]; have := hxf.2; simp only at this; omega
    obtain ⟨l1, l2⟩ := hxf
    simp only at l1 l2
    go_wp2_with (first
     | (with_reducible refine wpList_ld rfl 104 (.tmp 10) rfl b (off + k * 2) rfl (cLos (s, q)) HG.out (rowLos rfl) ?_)
     | ((refine wpList_st rfl 104 (.tmp 5) (.tmp 11) rfl wr.heap.size 0 (cLos (s, q)) rfl (by with_unfolding_all rfl) 104 zLos (BlkV.new wr _ _) (Nat.le_refl 2) (rowLos rfl) (cLos_one _) ?_); intro w1 hB1 ho1; rw [splice_all _ _ (by rfl)] at hB1; have k0 : w1.cell? ⟨wr.heap.size, 0, none⟩ = some (.int .u16 (s : Int)) := (hB1.cell 0).trans rfl; have k1 : w1.cell? ⟨wr.heap.size, 1, none⟩ = some (.int .u16 (q : Int)) := (hB1.cell 1).trans rfl; have B1 := Lib.hid (HL.out.below (((Below.refl _ _).alloc (Nat.le_refl _) _).trans (ho1.below (Nat.le_refl _)))); have V1 := Lib.hid hB1; clear hB1 ho1)
     | (go_at_call 35; ((with_reducible refine (put_bo w _ A1 M c1 (M + 2) _ 2 s _ _ (by omega) (by omega) (by omega) B1.out (by omega) (by omega) (by omega) (by omega)).mono ?_); rintro e w2 ⟨A2, c2, rfl, hbo, hb⟩; have B2 := Lib.hid hbo; have V2 := Lib.hid (V1.out.below hb V1.out.lt); have k2_0 : w2.cell? ⟨wr.heap.size, 0, none⟩ = some (.int .u16 (s : Int)) := (V2.out.cell 0).trans rfl; have k2_1 : w2.cell? ⟨wr.heap.size, 1, none⟩ = some (.int .u16 (q : Int)) := (V2.out.cell 1).trans rfl; clear hbo hb))
     | (go_at_call 35; ((with_reducible refine (put_bo w _ A2 (M + 2) c2 (M + 4) _ 2 q _ _ (by omega) (by omega) (by omega) B2.out (by omega) (by omega) (by omega) (by omega)).mono ?_); rintro e w3 ⟨A3, c3, rfl, hbo, hb⟩; have B3 := Lib.hid hbo; clear hbo hb)))
    go_roundw
    case rel => exact ⟨k + 1, M + 4, A3, c3, by omega, by omega, by go_num, rfl, Lib.hid (by rw [HV.out]; simp only [lossB]; rw [← List.append_assoc]; exact B3.out)⟩
    case measure => simp [intOf]; omega
  · obtain rfl : k = n := by omega
    rw [show L.take k = L by rw [← HN.out, List.take_length]] at HL
    have hm : M = (L.flatMap lossB).length := HL.out.len.symm
    subst hm
    go_wp2
    go_ret
    exact ⟨A1, c1, rfl, HL.out⟩

theorem rd_four (w : World) (q : Nat) (h : q < 256) : RdS (w.alloc (.cells #[.int .u8 (q : Int), .int .u8 0, .int .u8 0, .int .u8 0] 5)) (some ⟨w.heap.size, 0, none⟩) 4 4 (beb 1 q ++ List.replicate 3 0) := by
 have e : beb 1 q ++ List.replicate 3 0 = [UInt8.ofNat q, 0, 0, 0] := by rw [beb_succ]; rfl
 rw [e]
 have hB : Blk (w.alloc (.cells #[.int .u8 (q : Int), .int .u8 0, .int .u8 0, .int .u8 0] 5)) w.heap.size 5 [UInt8.ofNat q, 0, 0, 0] := Blk.new_at _ _ _ _ _ rfl (by simp [cells]; omega)
 exact hB.rd rfl (by omega) (by simp [maxLen])
theorem words_lit (L : List Nat) (n N : Nat) (C : Array Value) (w : World) (hC : C = (L.map fun x : Nat => Value.int .u32 (x : Int)).toArray) (hn : L.length = n) (hN : N = 4 * n) (hs : n ≤ 1000) (hf : ∀ x ∈ L, x < 4294967296) :
 Calls Tryz.prog 73 #[.slice (some ⟨w.heap.size, 0, none⟩) n n] (w.alloc (.cells C 36)) fun e w' => ∃ A' c', e = .returned (.slice A' N c') ∧ RdS w' A' N c' (L.flatMap (beb 4)) ∧ Below w.heap.size w w' := by
 subst hC
 have hB : BlkV (w.alloc (.cells (L.map fun x : Nat => Value.int .u32 (x : Int)).toArray 36)) w.heap.size 36 (L.map fun x : Nat => Value.int .u32 (x : Int)) := BlkV.new _ _ _
 refine (words_anyC _ n n L _ hn hs hf ⟨fun r hr => ?_, fun _ => ⟨w.heap.size, 0, rfl, hB.lt, fun j hj d hd => ?_⟩⟩).mono ?_
 · obtain ⟨x, _, rfl⟩ := List.mem_map.1 hr; rfl
 · obtain rfl : d = 0 := by omega
   rw [hB.cell]
   rw [List.length_map] at hj
   simp [List.getD, hj, cSrc]
 · rintro e w' ⟨A', c', rfl, hb⟩
   have hl : (L.flatMap (beb 4)).length = N := by rw [flat_len (beb 4) 4 (length_beb 4), hn, hN]
   rw [hl] at hb ⊢
   exact ⟨A', c', rfl, hb.rd, ((Below.refl _ _).alloc (Nat.le_refl _) _).trans (hb.2.mono (by simp))⟩
theorem ofNat_modC (a b : Nat) (h : a % 256 = b % 256) : UInt8.ofNat a = UInt8.ofNat b := by
 apply UInt8.toNat_inj.1
 rw [UInt8.toNat_ofNat', UInt8.toNat_ofNat']
 exact h
theorem beb_mul_add (n a : Nat) : ∀ x, beb n (a * 256 ^ n + x) = beb n x := by
 induction n with
 | zero => intro x; rfl
 | succ n ih =>
   intro x
   have e : a * 256 ^ (n + 1) = a * 256 ^ n * 256 := by rw [Nat.pow_succ, Nat.mul_assoc]
   rw [beb_succ, beb_succ n x, e, show (a * 256 ^ n * 256 + x) / 256 = a * 256 ^ n + x / 256 by omega, ih, ofNat_modC _ x (by omega)]
theorem beb_mod (n x : Nat) : beb n (x % 256 ^ n) = beb n x := by
 have h := beb_mul_add n (x / 256 ^ n) (x % 256 ^ n)
 rw [Nat.mul_comm, Nat.div_add_mod] at h
 exact h.symm
theorem beb_congr (n x y : Nat) (h : x % 256 ^ n = y % 256 ^ n) : beb n x = beb n y := by rw [← beb_mod n x, h, beb_mod]
theorem lo_bytes (z : Int) (h1 : -8388608 ≤ z) (h2 : z ≤ 8388607) : beb 3 ((z % 18446744073709551616).toNat) = beb 3 (lo24 z) := by
 apply beb_congr
 unfold lo24
 simp only [Nat.reducePow]
 split <;> omega

set_option maxRecDepth 100000 in
set_option maxHeartbeats 1000000 in
theorem firBytes_any (A : Option Addr) (n c : Nat) (L : List (Nat × Nat)) (w : World) (hn : L.length = n) (hs : n ≤ 1000) (hf : ∀ x ∈ L, x.1 < 4294967296 ∧ x.2 < 256) (h : RdG 2 w A (L.map cFir)) :
 Calls Tryz.prog 77 #[.slice A n c] w fun e w' => ∃ A' c', e = .returned (.slice A' (L.flatMap firB).length c') ∧ BO w w' A' (L.flatMap firB).length c' (L.flatMap firB) := by
 have HR := Lib.hid h
 have HN := Lib.hid hn
 have HF := Lib.hid hf
 clear h hn hf
 go_enter Tryz.func77, Tryz.ntmps77
 go_wp2
 go_loopw [3, 8] (fun v i wr => ∃ (k M : Nat) (A' : Option Addr) (c' : Nat), k ≤ n ∧ M ≤ 8 * k ∧ i = .int .i64 k ∧ v = .slice A' M c' ∧ Hid (BO w wr A' M c' ((L.take k).flatMap firB))) (fun _ i _ => n - (intOf i).toNat)
 case atStart => exact ⟨0, 0, none, 0, by omega, by omega, rfl, rfl, Lib.hid (BO.nil w)⟩
 case round =>
  obtain ⟨k, M, A1, c1, hk, hM, rfl, rfl, HL⟩ := hrel
  by_cases hkn : k < n
  · have hkl : k < L.length := by rw [HN.out]; exact hkn
    obtain ⟨b, off, rfl, hat⟩ := HR.out.at_ hkl
    have hxf := HF.out _ (List.getElem_mem hkl)
    have HV := Lib.hid (flat_snoc firB hkl)
    have HG := Lib.hid (hat wr HL.out.2)
    obtain ⟨x, hx⟩ : ∃ x, x = L[k] := ⟨_, rfl⟩
    rw [← hx] at hxf HV HG
    obtain ⟨T, hT⟩ : ∃ T, T = (L.take k).flatMap firB := ⟨_, rfl⟩
    rw [← hT] at HV HL
    clear hx hat hT
    have hsz := HL.out.2.size
    have hM6 : M ≤ 8 * 1000 := by omega
    obtain ⟨s, q⟩ := x
    obtain ⟨l1, l2⟩ := hxf
    simp only at l1 l2
    have e1 : IntKind.u64.wrap (s : Int) = (s : Int) := by rw [IntKind.wrap_u64]; omega
    go_wp2_with (first
     | (with_reducible refine wpList_ld rfl 106 (.tmp 10) rfl b (off + k * 2) rfl (cFir (s, q)) HG.out (rowFir rfl) ?_)
     | ((refine wpList_st rfl 106 (.tmp 5) (.tmp 11) rfl wr.heap.size 0 (cFir (s, q)) rfl (by with_unfolding_all rfl) 106 zFir (BlkV.new wr _ _) (Nat.le_refl 2) (rowFir rfl) (cFir_one _) ?_); intro w1 hB1 ho1; rw [splice_all _ _ (by rfl)] at hB1; have k0 : w1.cell? ⟨wr.heap.size, 0, none⟩ = some (.int .u32 (s : Int)) := (hB1.cell 0).trans rfl; have k1 : w1.cell? ⟨wr.heap.size, 1, none⟩ = some (.int .u8 (q : Int)) := (hB1.cell 1).trans rfl; have B1 := Lib.hid (HL.out.below (((Below.refl _ _).alloc (Nat.le_refl _) _).trans (ho1.below (Nat.le_refl _)))); have V1 := Lib.hid hB1; clear hB1 ho1)
     | (go_at_call 35; ((with_reducible refine (put_bo w _ A1 M c1 (M + 4) _ 4 s _ _ (by omega) (by omega) (by omega) B1.out (by omega) (by omega) (by omega) (by omega)).mono ?_); rintro e w2 ⟨A2, c2, rfl, hbo, hb⟩; have B2 := Lib.hid hbo; have V2 := Lib.hid (V1.out.below hb V1.out.lt); have k2_0 : w2.cell? ⟨wr.heap.size, 0, none⟩ = some (.int .u32 (s : Int)) := (V2.out.cell 0).trans rfl; have k2_1 : w2.cell? ⟨wr.heap.size, 1, none⟩ = some (.int .u8 (q : Int)) := (V2.out.cell 1).trans rfl; clear hbo hb))
     | (at_builtin; refine wpList_append_rd _ rfl (.tmp 17) (.tmp 20) rfl Tryz.underlying32 u8_info w.heap.size (.slice A2 (M + 4) c2) (M + 4) (T ++ beb 4 s) rfl (B2.out.1.alloc _) (some ⟨w2.heap.size, 0, none⟩) 4 4 (beb 1 q ++ List.replicate 3 0) rfl (rd_four w2 q l2) (by omega) (by have := B2.out.2.size; simp; omega) ?_; intro v3 w3 hown3 hg3 _; obtain ⟨A3, c3, hv3⟩ := own_formN hown3; subst hv3; have B3 := Lib.hid ((B2.out.below ((Below.refl _ _).alloc (Nat.le_refl _) _)).more hown3 hg3); clear hown3 hg3))
    go_roundw
    case rel => exact ⟨k + 1, M + 4 + 4, A3, c3, by omega, by omega, by go_num, rfl, Lib.hid (by rw [HV.out]; simp only [firB]; rw [← List.append_assoc]; exact B3.out)⟩
    case measure => simp [intOf]; omega
  · obtain rfl : k = n := by omega
    rw [show L.take k = L by rw [← HN.out, List.take_length]] at HL
    have hm : M = (L.flatMap firB).length := HL.out.len.symm
    subst hm
    go_wp2
    go_ret
    exact ⟨A1, c1, rfl, HL.out⟩

set_option maxRecDepth 100000 in
set_option maxHeartbeats 1000000 in
theorem repBytes_any (A : Option Addr) (n c : Nat) (L : List Rep) (w : World) (hn : L.length = n) (hs : n ≤ 1000) (hf : ∀ x ∈ L, x.fit ∧ x.ok) (h : RdG 7 w A (L.map cRep)) :
 Calls Tryz.prog 74 #[.slice A n c] w fun e w' => ∃ A' c', e = .returned (.slice A' (L.flatMap repB).length c') ∧ BO w w' A' (L.flatMap repB).length c' (L.flatMap repB) := by
 have HR := Lib.hid h
 have HN := Lib.hid hn
 have HF := Lib.hid hf
 clear h hn hf
 go_enter Tryz.func74, Tryz.ntmps74
 go_wp2
 go_loopw [3, 8] (fun v i wr => ∃ (k M : Nat) (A' : Option Addr) (c' : Nat), k ≤ n ∧ M ≤ 24 * k ∧ i = .int .i64 k ∧ v = .slice A' M c' ∧ Hid (BO w wr A' M c' ((L.take k).flatMap repB))) (fun _ i _ => n - (intOf i).toNat)
 case atStart => exact ⟨0, 0, none, 0, by omega, by omega, rfl, rfl, Lib.hid (BO.nil w)⟩
 case round =>
  obtain ⟨k, M, A1, c1, hk, hM, rfl, rfl, HL⟩ := hrel
  by_cases hkn : k < n
  · have hkl : k < L.length := by rw [HN.out]; exact hkn
    obtain ⟨b, off, rfl, hat⟩ := HR.out.at_ hkl
    have hxf := HF.out _ (List.getElem_mem hkl)
    have HV := Lib.hid (flat_snoc repB hkl)
    have HG := Lib.hid (hat wr HL.out.2)
    obtain ⟨x, hx⟩ : ∃ x, x = L[k] := ⟨_, rfl⟩
    rw [← hx] at hxf HV HG
    obtain ⟨T, hT⟩ : ∃ T, T = (L.take k).flatMap repB := ⟨_, rfl⟩
    rw [← hT] at HV HL
    clear hx hat hT
    have hsz := HL.out.2.size
    have hM6 : M ≤ 24 * 1000 := by omega
    obtain ⟨so, fr, lo, hi, ji, la, de⟩ := x
    obtain ⟨⟨l1, l2, l3, l4, l5, l6, l7⟩, m1, m2⟩ := hxf
    simp only at l1 l2 l4 l5 l6 l7 m1 m2
    have e1 : IntKind.u64.wrap (so : Int) = (so : Int) := by rw [IntKind.wrap_u64]; omega
    have e2 : IntKind.u64.wrap (fr : Int) = (fr : Int) := by rw [IntKind.wrap_u64]; omega
    have hlb := lo_bytes lo m1 m2
    obtain ⟨X, hX⟩ : ∃ X, X = (lo % 18446744073709551616).toNat := ⟨_, rfl⟩
    rw [← hX] at hlb
    have e3 : IntKind.u64.wrap lo = (X : Int) := by rw [IntKind.wrap_u64]; omega
    have lX : X < 18446744073709551616 := by omega
    have HLB := Lib.hid hlb
    have HW : Hid (∀ W, Calls Tryz.prog 73 #[.slice (some ⟨W.heap.size, 0, none⟩) 4 4] (W.alloc (.cells #[.int .u32 (hi : Int), .int .u32 (ji : Int), .int .u32 (la : Int), .int .u32 (de : Int)] 36)) fun e w' => ∃ A' c', e = .returned (.slice A' 16 c') ∧ RdS w' A' 16 c' ([hi, ji, la, de].flatMap (beb 4)) ∧ Below W.heap.size W w') := Lib.hid fun W => words_lit [hi, ji, la, de] 4 16 _ W rfl rfl rfl (by omega) (by intro x hx; simp at hx; omega)
    clear hX hlb l3 m1 m2
    have RX : Hid (X < 18446744073709551616) := Lib.hid lX
    clear lX
    go_wp2_with (first
     | (with_reducible refine wpList_ld rfl 102 (.tmp 10) rfl b (off + k * 7) rfl (cRep ⟨so, fr, lo, hi, ji, la, de⟩) HG.out (rowRep rfl) ?_)
     | ((refine wpList_st rfl 102 (.tmp 5) (.tmp 11) rfl wr.heap.size 0 (cRep ⟨so, fr, lo, hi, ji, la, de⟩) rfl (by with_unfolding_all rfl) 102 zRep (BlkV.new wr _ _) (Nat.le_refl 7) (rowRep rfl) (cRep_one _) ?_); intro w1 hB1 ho1; rw [splice_all _ _ (by rfl)] at hB1; have k0 : w1.cell? ⟨wr.heap.size, 0, none⟩ = some (.int .u32 (so : Int)) := (hB1.cell 0).trans rfl; have k1 : w1.cell? ⟨wr.heap.size, 1, none⟩ = some (.int .u8 (fr : Int)) := (hB1.cell 1).trans rfl; have k2 : w1.cell? ⟨wr.heap.size, 2, none⟩ = some (.int .i32 lo) := (hB1.cell 2).trans rfl; have k3 : w1.cell? ⟨wr.heap.size, 3, none⟩ = some (.int .u32 (hi : Int)) := (hB1.cell 3).trans rfl; have k4 : w1.cell? ⟨wr.heap.size, 4, none⟩ = some (.int .u32 (ji : Int)) := (hB1.cell 4).trans rfl; have k5 : w1.cell? ⟨wr.heap.size, 5, none⟩ = some (.int .u32 (la : Int)) := (hB1.cell 5).trans rfl; have k6 : w1.cell? ⟨wr.heap.size, 6, none⟩ = some (.int .u32 (de : Int)) := (hB1.cell 6).trans rfl; have B1 := Lib.hid (HL.out.below (((Below.refl _ _).alloc (Nat.le_refl _) _).trans (ho1.below (Nat.le_refl _)))); have V1 := Lib.hid hB1; clear hB1 ho1)
     | (go_at_call 35; ((with_reducible refine (put_bo w _ A1 M c1 (M + 4) _ 4 so _ _ (by omega) (by omega) (by omega) B1.out (by omega) (by omega) (by omega) (by omega)).mono ?_); rintro e w2 ⟨A2, c2, rfl, hbo, hb⟩; have B2 := Lib.hid hbo; have V2 := Lib.hid (V1.out.below hb V1.out.lt); have k2_0 : w2.cell? ⟨wr.heap.size, 0, none⟩ = some (.int .u32 (so : Int)) := (V2.out.cell 0).trans rfl; have k2_1 : w2.cell? ⟨wr.heap.size, 1, none⟩ = some (.int .u8 (fr : Int)) := (V2.out.cell 1).trans rfl; have k2_2 : w2.cell? ⟨wr.heap.size, 2, none⟩ = some (.int .i32 lo) := (V2.out.cell 2).trans rfl; have k2_3 : w2.cell? ⟨wr.heap.size, 3, none⟩ = some (.int .u32 (hi : Int)) := (V2.out.cell 3).trans rfl; have k2_4 : w2.cell? ⟨wr.heap.size, 4, none⟩ = some (.int .u32 (ji : Int)) := (V2.out.cell 4).trans rfl; have k2_5 : w2.cell? ⟨wr.heap.size, 5, none⟩ = some (.int .u32 (la : Int)) := (V2.out.cell 5).trans rfl; have k2_6 : w2.cell? ⟨wr.heap.size, 6, none⟩ = some (.int .u32 (de : Int)) := (V2.out.cell 6).trans rfl; clear hbo hb))
     | (go_at_call 35; ((with_reducible refine (put_bo w _ A2 (M + 4) c2 (M + 5) _ 1 fr _ _ (by omega) (by omega) (by omega) B2.out (by omega) (by omega) (by omega) (by omega)).mono ?_); rintro e w3 ⟨A3, c3, rfl, hbo, hb⟩; have B3 := Lib.hid hbo; have V3 := Lib.hid (V2.out.below hb V2.out.lt); have k3_0 : w3.cell? ⟨wr.heap.size, 0, none⟩ = some (.int .u32 (so : Int)) := (V3.out.cell 0).trans rfl; have k3_1 : w3.cell? ⟨wr.heap.size, 1, none⟩ = some (.int .u8 (fr : Int)) := (V3.out.cell 1).trans rfl; have k3_2 : w3.cell? ⟨wr.heap.size, 2, none⟩ = some (.int .i32 lo) := (V3.out.cell 2).trans rfl; have k3_3 : w3.cell? ⟨wr.heap.size, 3, none⟩ = some (.int .u32 (hi : Int)) := (V3.out.cell 3).trans rfl; have k3_4 : w3.cell? ⟨wr.heap.size, 4, none⟩ = some (.int .u32 (ji : Int)) := (V3.out.cell 4).trans rfl; have k3_5 : w3.cell? ⟨wr.heap.size, 5, none⟩ = some (.int .u32 (la : Int)) := (V3.out.cell 5).trans rfl; have k3_6 : w3.cell? ⟨wr.heap.size, 6, none⟩ = some (.int .u32 (de : Int)) := (V3.out.cell 6).trans rfl; clear hbo hb))
     | (go_at_call 35; ((with_reducible refine (put_bo w _ A3 (M + 5) c3 (M + 8) _ 3 X _ _ (by omega) (by omega) (by omega) B3.out (by omega) (by omega) RX.out (by omega)).mono ?_); rintro e w4 ⟨A4, c4, rfl, hbo, hb⟩; have B4 := Lib.hid hbo; have V4 := Lib.hid (V3.out.below hb V3.out.lt); have k4_0 : w4.cell? ⟨wr.heap.size, 0, none⟩ = some (.int .u32 (so : Int)) := (V4.out.cell 0).trans rfl; have k4_1 : w4.cell? ⟨wr.heap.size, 1, none⟩ = some (.int .u8 (fr : Int)) := (V4.out.cell 1).trans rfl; have k4_2 : w4.cell? ⟨wr.heap.size, 2, none⟩ = some (.int .i32 lo) := (V4.out.cell 2).trans rfl; have k4_3 : w4.cell? ⟨wr.heap.size, 3, none⟩ = some (.int .u32 (hi : Int)) := (V4.out.cell 3).trans rfl; have k4_4 : w4.cell? ⟨wr.heap.size, 4, none⟩ = some (.int .u32 (ji : Int)) := (V4.out.cell 4).trans rfl; have k4_5 : w4.cell? ⟨wr.heap.size, 5, none⟩ = some (.int .u32 (la : Int)) := (V4.out.cell 5).trans rfl; have k4_6 : w4.cell? ⟨wr.heap.size, 6, none⟩ = some (.int .u32 (de : Int)) := (V4.out.cell 6).trans rfl; clear hbo hb))
     | (go_at_call 73; ((with_reducible refine (Hid.out HW w4).mono ?_); rintro e w5 ⟨A5, c5, rfl, hr5, hb⟩; have R5 := Lib.hid hr5; have B5 := Lib.hid (B4.out.below hb); clear hr5 hb))
     | (at_builtin; refine wpList_append_rd _ rfl (.tmp 27) (.tmp 37) rfl Tryz.underlying32 u8_info w.heap.size (.slice A4 (M + 8) c4) (M + 8) (T ++ beb 4 so ++ beb 1 fr ++ beb 3 X) rfl B5.out.1 A5 16 c5 ([hi, ji, la, de].flatMap (beb 4)) rfl R5.out (by omega) B5.out.2.size ?_; intro v6 w6 hown6 hg6 _; obtain ⟨A6, c6, hv6⟩ := own_formN hown6; subst hv6; have B6 := Lib.hid (B5.out.more hown6 hg6); clear hown6 hg6))
    go_roundw
    case rel => exact ⟨k + 1, M + 8 + 16, A6, c6, by omega, by omega, by go_num, rfl, Lib.hid (by rw [HV.out]; simp only [repB]; rw [← HLB.out]; simp only [← List.append_assoc]; have := B6.out; simp only [List.flatMap_cons, List.flatMap_nil, List.append_nil, ← List.append_assoc] at this; exact this)⟩
    case measure => simp [intOf]; omega
  · obtain rfl : k = n := by omega
    rw [show L.take k = L by rw [← HN.out, List.take_length]] at HL
    have hm : M = (L.flatMap repB).length := HL.out.len.symm
    subst hm
    go_wp2
    go_ret
    exact ⟨A1, c1, rfl, HL.out⟩
theorem rd_two (w : World) (q : Nat) (h : q < 256) : RdS (w.alloc (.cells #[.int .u8 1, .int .u8 (q : Int)] 5)) (some ⟨w.heap.size, 0, none⟩) 2 2 (beb 1 1 ++ beb 1 q) := by
 have e : beb 1 1 ++ beb 1 q = [1, UInt8.ofNat q] := by rw [beb_succ 0 q, beb_succ 0 1]; rfl
 rw [e]
 have hB : Blk (w.alloc (.cells #[.int .u8 1, .int .u8 (q : Int)] 5)) w.heap.size 5 [1, UInt8.ofNat q] := Blk.new_at _ _ _ _ _ rfl (by simp [cells]; omega)
 exact hB.rd rfl (by omega) (by simp [maxLen])

set_option maxRecDepth 100000 in
set_option maxHeartbeats 1000000 in
theorem namBytes_any (A : Option Addr) (n c : Nat) (L : List (Nat × List UInt8)) (w : World) (hn : L.length = n) (hs : n ≤ 1000) (hf : ∀ x ∈ L, x.1 < 4294967296 ∧ nameP (txt x.2)) (h : RdG 2 w A (L.map cNam)) :
 Calls Tryz.prog 75 #[.slice A n c] w fun e w' => ∃ A' c', e = .returned (.slice A' (L.flatMap namB).length c') ∧ BO w w' A' (L.flatMap namB).length c' (L.flatMap namB) := by
 have HR := Lib.hid h
 have HN := Lib.hid hn
 have HF := Lib.hid hf
 clear h hn hf
 go_enter Tryz.func75, Tryz.ntmps75
 go_wp2
 go_loopw [3, 8] (fun v i wr => ∃ (k M : Nat) (A' : Option Addr) (c' : Nat), k ≤ n ∧ M ≤ 26 * k ∧ i = .int .i64 k ∧ v = .slice A' M c' ∧ Hid (BO w wr A' M c' ((L.take k).flatMap namB))) (fun _ i _ => n - (intOf i).toNat)
 case atStart => exact ⟨0, 0, none, 0, by omega, by omega, rfl, rfl, Lib.hid (BO.nil w)⟩
 case round =>
  obtain ⟨k, M, A1, c1, hk, hM, rfl, rfl, HL⟩ := hrel
  by_cases hkn : k < n
  · have hkl : k < L.length := by rw [HN.out]; exact hkn
    obtain ⟨b, off, rfl, hat⟩ := HR.out.at_ hkl
    have hxf := HF.out _ (List.getElem_mem hkl)
    have HV := Lib.hid (flat_snoc namB hkl)
    have HG := Lib.hid (hat wr HL.out.2)
    obtain ⟨x, hx⟩ : ∃ x, x = L[k] := ⟨_, rfl⟩
    rw [← hx] at hxf HV HG
    obtain ⟨T, hT⟩ : ∃ T, T = (L.take k).flatMap namB := ⟨_, rfl⟩
    rw [← hT] at HV HL
    clear hx hat hT
    have hsz := HL.out.2.size
    have hM6 : M ≤ 26 * 1000 := by omega
    obtain ⟨s, t⟩ := x
    obtain ⟨l1, hnm⟩ := hxf
    simp only at l1 hnm
    have e1 : IntKind.u64.wrap (s : Int) = (s : Int) := by rw [IntKind.wrap_u64]; omega
    have hsz1 := size_txt t
    have l2 : t.length ≤ 16 := by have := hnm.2.1; omega
    have l3 : 1 ≤ zb t.length ∧ zb t.length ≤ 4 := by unfold zb; omega
    have HZ := Lib.hid (fun W => zerosBehind_any t W (by omega))
    clear hnm
    obtain ⟨N, hN⟩ : ∃ N, N = t.length := ⟨_, rfl⟩
    rw [← hN] at hsz1 l2 l3 HZ
    obtain ⟨Z, hZ⟩ : ∃ Z, Z = zb N := ⟨_, rfl⟩
    rw [← hZ] at l3 HZ
    have e2 : IntKind.u8.wrap (N : Int) = (N : Int) := by rw [IntKind.wrap_u8]; omega
    have HN2 := Lib.hid hN
    have HZ2 := Lib.hid hZ
    clear hN hZ
    go_wp2_with (first
     | (with_reducible refine wpList_ld rfl 62 (.tmp 10) rfl b (off + k * 2) rfl (cNam (s, t)) HG.out (rowNam rfl) ?_)
     | ((refine wpList_st rfl 62 (.tmp 5) (.tmp 11) rfl wr.heap.size 0 (cNam (s, t)) rfl (by with_unfolding_all rfl) 62 zNam (BlkV.new wr _ _) (Nat.le_refl 2) (rowNam rfl) (cNam_one _) ?_); intro w1 hB1 ho1; rw [splice_all _ _ (by rfl)] at hB1; have k0 : w1.cell? ⟨wr.heap.size, 0, none⟩ = some (.int .u32 (s : Int)) := (hB1.cell 0).trans rfl; have k1 : w1.cell? ⟨wr.heap.size, 1, none⟩ = some (.string (txt t)) := (hB1.cell 1).trans rfl; have B1 := Lib.hid (HL.out.below (((Below.refl _ _).alloc (Nat.le_refl _) _).trans (ho1.below (Nat.le_refl _)))); have V1 := Lib.hid hB1; clear hB1 ho1)
     | (go_at_call 35; ((with_reducible refine (put_bo w _ A1 M c1 (M + 4) _ 4 s _ _ (by omega) (by omega) (by omega) B1.out (by omega) (by omega) (by omega) (by omega)).mono ?_); rintro e w2 ⟨A2, c2, rfl, hbo, hb⟩; have B2 := Lib.hid hbo; have V2 := Lib.hid (V1.out.below hb V1.out.lt); have k2_0 : w2.cell? ⟨wr.heap.size, 0, none⟩ = some (.int .u32 (s : Int)) := (V2.out.cell 0).trans rfl; have k2_1 : w2.cell? ⟨wr.heap.size, 1, none⟩ = some (.string (txt t)) := (V2.out.cell 1).trans rfl; clear hbo hb))
     | (at_builtin; refine wpList_append_rd _ rfl (.tmp 17) (.tmp 22) rfl Tryz.underlying32 u8_info w.heap.size (.slice A2 (M + 4) c2) (M + 4) (T ++ beb 4 s) rfl (B2.out.1.alloc _) (some ⟨w2.heap.size, 0, none⟩) 2 2 (beb 1 1 ++ beb 1 N) rfl (rd_two w2 N (by omega)) (by omega) (by have := B2.out.2.size; simp; omega) ?_; intro v3 w3 hown3 hg3 _; obtain ⟨A3, c3, hv3⟩ := own_formN hown3; subst hv3; have B3 := Lib.hid ((B2.out.below ((Below.refl _ _).alloc (Nat.le_refl _) _)).more hown3 hg3); have V3 := Lib.hid ((V2.out.alloc (.cells #[.int .u8 1, .int .u8 (N : Int)] 5)).grown hg3 (fun e => own_ne B2.out.1 V2.out (by decide) e.symm)); have k3_1 : w3.cell? ⟨wr.heap.size, 1, none⟩ = some (.string (txt t)) := (V3.out.cell 1).trans rfl; clear hown3 hg3)
     | (at_builtin; refine wpList_app_str rfl (.tmp 24) (.tmp 26) rfl w A3 (M + 6) c3 _ t rfl B3.out rfl (by omega) (by have := HN2.out; omega) ?_; intro A4 c4 w4 hb4 hx4; have B4 := Lib.hid hb4; have V4 := Lib.hid (V3.out.grown hx4 (fun e => own_ne B3.out.1 V3.out (by decide) e.symm)); have k4_1 : w4.cell? ⟨wr.heap.size, 1, none⟩ = some (.string (txt t)) := (V4.out.cell 1).trans rfl; clear hb4 hx4)
     | (go_at_call 90; ((with_reducible refine (Hid.out HZ _).mono ?_); rintro e wx ⟨rfl, rfl⟩))
     | (at_builtin; refine wpList_app_zeros rfl (.tmp 28) (.tmp 31) rfl w A4 (M + 6 + t.length) c4 Z _ rfl B4.out rfl l3.1 (by have := HN2.out; omega) (by omega) ?_; intro A5 c5 w5 hb5 hx5; have B5 := Lib.hid hb5; clear hb5 hx5))
    go_roundw
    case rel => exact ⟨k + 1, M + 6 + t.length + Z, A5, c5, by omega, by have := HN2.out; omega, by go_num, rfl, Lib.hid (by rw [HV.out]; simp only [namB]; rw [← HN2.out, ← HZ2.out]; simp only [← List.append_assoc]; have := B5.out; rw [← HN2.out] at this; simp only [← List.append_assoc] at this; exact this)⟩
    case measure => simp [intOf]; omega
  · obtain rfl : k = n := by omega
    rw [show L.take k = L by rw [← HN.out, List.take_length]] at HL
    have hm : M = (L.flatMap namB).length := HL.out.len.symm
    subst hm
    go_wp2
    go_ret
    exact ⟨A1, c1, rfl, HL.out⟩
theorem tabAll : ∀ i : Fin 256, (Lib.len8tab.data[i.val]?).map (·.toNat) = some (Lib.bitLen i.val) := by decide +kernel
theorem tab8 (i : Nat) (h : i < 256) {hp : i < Lib.len8tab.size} : (Lib.len8tab[i]'hp).toNat = Lib.bitLen i := by
 have e := tabAll ⟨i, h⟩
 have hp2 : i < Lib.len8tab.data.size := hp
 simp only [Array.getElem?_eq_getElem hp2, Option.map_some, Option.some.injEq] at e
 exact e
theorem tabRun (i : Nat) (h : i < 256) (w : World) : (Instr.index 9 (.string Lib.len8tab) (.int .u8 (i : Int))).run Tryz.prog w = .ok (.int .u8 ((Lib.bitLen i : Nat) : Int)) w := by
 have hs : Lib.len8tab.size = 256 := by decide +kernel
 have h1 : (i : Int) < 256 := by omega
 simp [Instr.index, go_sem, asIntOf, run_underlying Tryz.underlying9, hs, h]
 exact congrArg Nat.cast (tab8 i h)
theorem cut_len (x y k : Nat) (hx : x < 18446744073709551616) (h : 2 ^ k ≤ x) (hy : y = x / 2 ^ k) : Lib.bitLen x = k + Lib.bitLen y := by
 rw [hy]; exact Lib.bitLen_shift k x h hx
theorem low_len (x : Nat) (h : x < 256) : Lib.bitLen x ≤ 8 := Lib.bitLen_le8 ⟨x, h⟩
set_option maxHeartbeats 2000000 in
set_option maxRecDepth 4000 in
theorem len64_any (X : Nat) (w : World) (hX : X < 18446744073709551616) : Calls Tryz.prog 89 #[.int .u64 (X : Int)] w fun e w' => e = .returned (.int .i64 (Lib.bitLen X : Int)) ∧ w = w' := by
 have HX : Lib.bitLen X = 0 + Lib.bitLen X := (Nat.zero_add _).symm
 by_cases g32 : (4294967296 : Int) ≤ (X : Int)
 · obtain ⟨y32, hy32⟩ : ∃ y32, y32 = X / 2 ^ 32 := ⟨_, rfl⟩
   have q32 := cut_len X y32 32 (by omega) (by simp only [Nat.reducePow]; omega) hy32
   simp only [Nat.reducePow] at hy32
   have e32 : (X : Int) / 4294967296 = (y32 : Int) := by omega
   replace HX : Lib.bitLen X = 32 + Lib.bitLen y32 := by omega
   have hY32 : y32 < 4294967296 := by omega
   clear q32
   by_cases g16 : (65536 : Int) ≤ (y32 : Int)
   · obtain ⟨y16, hy16⟩ : ∃ y16, y16 = y32 / 2 ^ 16 := ⟨_, rfl⟩
     have q16 := cut_len y32 y16 16 (by omega) (by simp only [Nat.reducePow]; omega) hy16
     simp only [Nat.reducePow] at hy16
     have e16 : (y32 : Int) / 65536 = (y16 : Int) := by omega
     replace HX : Lib.bitLen X = 48 + Lib.bitLen y16 := by omega
     have hY16 : y16 < 65536 := by omega
     clear q16
     by_cases g8 : (256 : Int) ≤ (y16 : Int)
     · obtain ⟨y8, hy8⟩ : ∃ y8, y8 = y16 / 2 ^ 8 := ⟨_, rfl⟩
       have q8 := cut_len y16 y8 8 (by omega) (by simp only [Nat.reducePow]; omega) hy8
       simp only [Nat.reducePow] at hy8
       have e8 : (y16 : Int) / 256 = (y8 : Int) := by omega
       replace HX : Lib.bitLen X = 56 + Lib.bitLen y8 := by omega
       have hY8 : y8 < 256 := by omega
       clear q8
       have hl := low_len y8 (by omega)
       have hix := fun wz => tabRun y8 (by omega) wz
       obtain ⟨L, hL⟩ : ∃ L, L = Lib.bitLen y8 := ⟨_, rfl⟩
       rw [← hL] at hl hix HX
       have b1 : IntKind.u8.wrap (y8 : Int) = (y8 : Int) := by rw [IntKind.wrap_u8]; omega
       have b2 : IntKind.i64.wrap (L : Int) = (L : Int) := by rw [IntKind.wrap_i64]; omega
       have b3 : IntKind.i64.wrap (56 + (L : Int)) = 56 + (L : Int) := by rw [IntKind.wrap_i64]; omega
       have HXX := Lib.hid HX
       clear HX hL hl hX hy32 hY32 hy16 hY16 hy8 hY8
       go_enter Tryz.func89, Tryz.ntmps89
       go_wp2
       go_ret
       exact ⟨by rw [HXX.out]; simp, rfl⟩
     · have hl := low_len y16 (by omega)
       have hix := fun wz => tabRun y16 (by omega) wz
       obtain ⟨L, hL⟩ : ∃ L, L = Lib.bitLen y16 := ⟨_, rfl⟩
       rw [← hL] at hl hix HX
       have b1 : IntKind.u8.wrap (y16 : Int) = (y16 : Int) := by rw [IntKind.wrap_u8]; omega
       have b2 : IntKind.i64.wrap (L : Int) = (L : Int) := by rw [IntKind.wrap_i64]; omega
       have b3 : IntKind.i64.wrap (48 + (L : Int)) = 48 + (L : Int) := by rw [IntKind.wrap_i64]; omega
       have HXX := Lib.hid HX
       clear HX hL hl hX hy32 hY32 hy16 hY16
       go_enter Tryz.func89, Tryz.ntmps89
       go_wp2
       go_ret
       exact ⟨by rw [HXX.out]; simp, rfl⟩
   · by_cases g8 : (256 : Int) ≤ (y32 : Int)
     · obtain ⟨y8, hy8⟩ : ∃ y8, y8 = y32 / 2 ^ 8 := ⟨_, rfl⟩
       have q8 := cut_len y32 y8 8 (by omega) (by simp only [Nat.reducePow]; omega) hy8
       simp only [Nat.reducePow] at hy8
       have e8 : (y32 : Int) / 256 = (y8 : Int) := by omega
       replace HX : Lib.bitLen X = 40 + Lib.bitLen y8 := by omega
       have hY8 : y8 < 256 := by omega
       clear q8
       have hl := low_len y8 (by omega)
       have hix := fun wz => tabRun y8 (by omega) wz
       obtain ⟨L, hL⟩ : ∃ L, L = Lib.bitLen y8 := ⟨_, rfl⟩
       rw [← hL] at hl hix HX
       have b1 : IntKind.u8.wrap (y8 : Int) = (y8 : Int) := by rw [IntKind.wrap_u8]; omega
       have b2 : IntKind.i64.wrap (L : Int) = (L : Int) := by rw [IntKind.wrap_i64]; omega
       have b3 : IntKind.i64.wrap (40 + (L : Int)) = 40 + (L : Int) := by rw [IntKind.wrap_i64]; omega
       have HXX := Lib.hid HX
       clear HX hL hl hX hy32 hY32 hy8 hY8
       go_enter Tryz.func89, Tryz.ntmps89
       go_wp2
       go_ret
       exact ⟨by rw [HXX.out]; simp, rfl⟩
     · have hl := low_len y32 (by omega)
       have hix := fun wz => tabRun y32 (by omega) wz
       obtain ⟨L, hL⟩ : ∃ L, L = Lib.bitLen y32 := ⟨_, rfl⟩
       rw [← hL] at hl hix HX
       have b1 : IntKind.u8.wrap (y32 : Int) = (y32 : Int) := by rw [IntKind.wrap_u8]; omega
       have b2 : IntKind.i64.wrap (L : Int) = (L : Int) := by rw [IntKind.wrap_i64]; omega
       have b3 : IntKind.i64.wrap (32 + (L : Int)) = 32 + (L : Int) := by rw [IntKind.wrap_i64]; omega
       have HXX := Lib.hid HX
       clear HX hL hl hX hy32 hY32
       go_enter Tryz.func89, Tryz.ntmps89
       go_wp2
       go_ret
       exact ⟨by rw [HXX.out]; simp, rfl⟩
 · by_cases g16 : (65536 : Int) ≤ (X : Int)
   · obtain ⟨y16, hy16⟩ : ∃ y16, y16 = X / 2 ^ 16 := ⟨_, rfl⟩
     have q16 := cut_len X y16 16 (by omega) (by simp only [Nat.reducePow]; omega) hy16
     simp only [Nat.reducePow] at hy16
     have e16 : (X : Int) / 65536 = (y16 : Int) := by omega
     replace HX : Lib.bitLen X = 16 + Lib.bitLen y16 := by omega
     have hY16 : y16 < 65536 := by omega
     clear q16
     by_cases g8 : (256 : Int) ≤ (y16 : Int)
     · obtain ⟨y8, hy8⟩ : ∃ y8, y8 = y16 / 2 ^ 8 := ⟨_, rfl⟩
       have q8 := cut_len y16 y8 8 (by omega) (by simp only [Nat.reducePow]; omega) hy8
       simp only [Nat.reducePow] at hy8
       have e8 : (y16 : Int) / 256 = (y8 : Int) := by omega
       replace HX : Lib.bitLen X = 24 + Lib.bitLen y8 := by omega
       have hY8 : y8 < 256 := by omega
       clear q8
       have hl := low_len y8 (by omega)
       have hix := fun wz => tabRun y8 (by omega) wz
       obtain ⟨L, hL⟩ : ∃ L, L = Lib.bitLen y8 := ⟨_, rfl⟩
       rw [← hL] at hl hix HX
       have b1 : IntKind.u8.wrap (y8 : Int) = (y8 : Int) := by rw [IntKind.wrap_u8]; omega
       have b2 : IntKind.i64.wrap (L : Int) = (L : Int) := by rw [IntKind.wrap_i64]; omega
       have b3 : IntKind.i64.wrap (24 + (L : Int)) = 24 + (L : Int) := by rw [IntKind.wrap_i64]; omega
       have HXX := Lib.hid HX
       clear HX hL hl hX hy16 hY16 hy8 hY8
       go_enter Tryz.func89, Tryz.ntmps89
       go_wp2
       go_ret
       exact ⟨by rw [HXX.out]; simp, rfl⟩
     · have hl := low_len y16 (by omega)
       have hix := fun wz => tabRun y16 (by omega) wz
       obtain ⟨L, hL⟩ : ∃ L, L = Lib.bitLen y16 := ⟨_, rfl⟩
       rw [← hL] at hl hix HX
       have b1 : IntKind.u8.wrap (y16 : Int) = (y16 : Int) := by rw [IntKind.wrap_u8]; omega
       have b2 : IntKind.i64.wrap (L : Int) = (L : Int) := by rw [IntKind.wrap_i64]; omega
       have b3 : IntKind.i64.wrap (16 + (L : Int)) = 16 + (L : Int) := by rw [IntKind.wrap_i64]; omega
       have HXX := Lib.hid HX
       clear HX hL hl hX hy16 hY16
       go_enter Tryz.func89, Tryz.ntmps89
       go_wp2
       go_ret
       exact ⟨by rw [HXX.out]; simp, rfl⟩
   · by_cases g8 : (256 : Int) ≤ (X : Int)
     · obtain ⟨y8, hy8⟩ : ∃ y8, y8 = X / 2 ^ 8 := ⟨_, rfl⟩
       have q8 := cut_len X y8 8 (by omega) (by simp only [Nat.reducePow]; omega) hy8
       simp only [Nat.reducePow] at hy8
       have e8 : (X : Int) / 256 = (y8 : Int) := by omega
       replace HX : Lib.bitLen X = 8 + Lib.bitLen y8 := by omega
       have hY8 : y8 < 256 := by omega
       clear q8
       have hl := low_len y8 (by omega)
       have hix := fun wz => tabRun y8 (by omega) wz
       obtain ⟨L, hL⟩ : ∃ L, L = Lib.bitLen y8 := ⟨_, rfl⟩
       rw [← hL] at hl hix HX
       have b1 : IntKind.u8.wrap (y8 : Int) = (y8 : Int) := by rw [IntKind.wrap_u8]; omega
       have b2 : IntKind.i64.wrap (L : Int) = (L : Int) := by rw [IntKind.wrap_i64]; omega
       have b3 : IntKind.i64.wrap (8 + (L : Int)) = 8 + (L : Int) := by rw [IntKind.wrap_i64]; omega
       have HXX := Lib.hid HX
       clear HX hL hl hX hy8 hY8
       go_enter Tryz.func89, Tryz.ntmps89
       go_wp2
       go_ret
       exact ⟨by rw [HXX.out]; simp, rfl⟩
     · have hl := low_len X (by omega)
       have hix := fun wz => tabRun X (by omega) wz
       obtain ⟨L, hL⟩ : ∃ L, L = Lib.bitLen X := ⟨_, rfl⟩
       rw [← hL] at hl hix
       replace HX : Lib.bitLen X = 0 + L := by omega
       have b1 : IntKind.u8.wrap (X : Int) = (X : Int) := by rw [IntKind.wrap_u8]; omega
       have b2 : IntKind.i64.wrap (L : Int) = (L : Int) := by rw [IntKind.wrap_i64]; omega
       have b3 : IntKind.i64.wrap (0 + (L : Int)) = 0 + (L : Int) := by rw [IntKind.wrap_i64]; omega
       have HXX := Lib.hid HX
       clear HX hL hl hX 
       go_enter Tryz.func89, Tryz.ntmps89
       go_wp2
       go_ret
       exact ⟨by rw [HXX.out]; simp, rfl⟩
theorem aux_spec : ∀ (f x : Nat), x < 2 ^ f → x < 2 ^ Lib.bitLenAux f x ∧ (0 < x → 2 ^ (Lib.bitLenAux f x - 1) ≤ x ∧ 0 < Lib.bitLenAux f x)
 | 0, x, h => by simp at h; subst h; simp [Lib.bitLenAux]
 | f + 1, x, h => by
   unfold Lib.bitLenAux
   by_cases h0 : x = 0
   · subst h0; simp
   · rw [if_neg h0]
     obtain ⟨h1, h2⟩ := aux_spec f (x / 2) (by rw [Nat.pow_succ] at h; omega)
     obtain ⟨L, hL⟩ : ∃ L, L = Lib.bitLenAux f (x / 2) := ⟨_, rfl⟩
     rw [← hL] at h1 h2 ⊢
     refine ⟨by rw [Nat.add_comm 1 L, Nat.pow_succ]; omega, fun _ => ⟨?_, by omega⟩⟩
     rw [Nat.add_sub_cancel_left]
     by_cases h3 : 0 < x / 2
     · obtain ⟨h4, h5⟩ := h2 h3
       obtain ⟨K, rfl⟩ : ∃ K, L = K + 1 := ⟨L - 1, by omega⟩
       rw [Nat.add_sub_cancel] at h4
       rw [Nat.pow_succ]; omega
     · have h6 : x / 2 = 0 := by omega
       rw [h6] at hL
       have h7 : L = 0 := by rw [hL]; cases f <;> simp [Lib.bitLenAux]
       rw [h7]; omega
theorem bitLen_spec (x : Nat) (h : x < 18446744073709551616) : x < 2 ^ Lib.bitLen x ∧ (0 < x → 2 ^ (Lib.bitLen x - 1) ≤ x ∧ 0 < Lib.bitLen x) := aux_spec 64 x h
end Go.Proofs.YtheefckohnaceaaGreatDoor

namespace Go.Proofs.YtheefckohnaceaaGreatDoor
set_option linter.unusedVariables false

def rE (x : Nat) : Nat := Lib.bitLen x - 18
def rM (x : Nat) : Nat := x / 2 ^ rE x
theorem rM_lt (x : Nat) (hx : x < 18446744073709551616) : rM x < 262144 := by
 obtain ⟨s1, _⟩ := bitLen_spec x hx
 have p18 : (262144 : Nat) = 2 ^ 18 := by decide
 unfold rM rE
 rw [p18, Nat.div_lt_iff_lt_mul (Nat.two_pow_pos _), ← Nat.pow_add]
 exact Nat.lt_of_lt_of_le s1 (Nat.pow_le_pow_right (by omega) (by omega))
theorem rE_lt (x : Nat) (hx : x < 18446744073709551616) : rE x ≤ 46 := by
 have := Lib.bitLen_le x 64 (by omega) hx
 unfold rE; omega

def Ctl.fit (c : Ctl) : Prop := (-9223372036854775808 ≤ c.k ∧ c.k ≤ 9223372036854775807) ∧ c.so < 4294967296 ∧ c.me < 4294967296 ∧ c.ti < 18446744073709551616 ∧ c.st < 4294967296 ∧ c.pa < 4294967296 ∧ c.oc < 4294967296 ∧ (∀ x ∈ c.reps, x.fit) ∧ (∀ x ∈ c.nams, x.1 < 4294967296) ∧ (∀ x ∈ c.srcs, x < 4294967296) ∧ (∀ x ∈ c.loss, x.1 < 65536 ∧ x.2 < 65536) ∧ (∀ x ∈ c.firs, x.1 < 4294967296 ∧ x.2 < 256) ∧ c.ra < 18446744073709551616

def mayC (c : Ctl) : Prop :=
 (∃ so ti st pa oc L, c = mkSR 200 so ti st pa oc L ∧ L.length ≤ 16 ∧ ∀ x ∈ L, x.ok) ∨
 (∃ so L, c = mkRR 201 so L ∧ L.length ≤ 16 ∧ ∀ x ∈ L, x.ok) ∨
 (∃ L, c = mkSD 202 L ∧ L.length ≤ 16 ∧ ∀ x ∈ L, nameP (txt x.2)) ∨
 (∃ L, c = mkBY 203 L ∧ L.length ≤ 16) ∨
 (∃ so me L, c = mkNA 1 so me L ∧ 1 ≤ L.length ∧ L.length ≤ 16) ∨
 (∃ so me, c = mkPL 2 so me) ∨
 (∃ so L, c = mkFI 3 so L ∧ 1 ≤ L.length ∧ L.length ≤ 16) ∨
 (∃ so L ra, c = mkRE 4 so L ra ∧ L.length ≤ 16 ∧ ra < 9223372036854775808 ∧ rM ra * 2 ^ rE ra = ra)

def typC (c : Ctl) : Nat := if c.k = 1 then 205 else if c.k = 2 ∨ c.k = 3 ∨ c.k = 4 then 206 else c.k.toNat
def cntC (c : Ctl) : Nat := if c.k = 1 ∨ c.k = 2 then 1 else if c.k = 3 then 4 else if c.k = 4 then 15 else c.reps.length + c.nams.length + c.srcs.length
def bodyC (c : Ctl) : List UInt8 :=
 if c.k = 200 then bSR c.so c.ti c.st c.pa c.oc c.reps else if c.k = 201 then bRR c.so c.reps else if c.k = 202 then bSD c.nams else if c.k = 203 then bBY c.srcs
 else if c.k = 1 then bNA c.so c.me c.loss else if c.k = 2 then bPL c.so c.me else if c.k = 3 then bFI c.so c.firs else bRE c.so c.srcs (rM c.ra) (rE c.ra)
def wr1 (c : Ctl) : List UInt8 := beb 1 (128 + cntC c) ++ (beb 1 (typC c) ++ (beb 2 ((bodyC c).length / 4) ++ bodyC c))
def wrL (l : List Ctl) : List UInt8 := l.flatMap wr1

theorem namB_four (x : Nat × List UInt8) : (namB x).length % 4 = 0 := by rw [namB_len]; unfold zb; omega
theorem flat_four {α : Type} (f : α → List UInt8) (hf : ∀ x, (f x).length % 4 = 0) : ∀ L : List α, (L.flatMap f).length % 4 = 0
 | [] => by simp
 | a :: r => by
   have h1 := hf a
   have h2 := flat_four f hf r
   rw [List.flatMap_cons, List.length_append]; omega
theorem flat_le {α : Type} (f : α → List UInt8) (n : Nat) : ∀ L : List α, (∀ x ∈ L, (f x).length ≤ n) → (L.flatMap f).length ≤ n * L.length
 | [], _ => by simp
 | a :: r, h => by
   have h1 := h a (by simp)
   have h2 := flat_le f n r (fun x hx => h x (by simp [hx]))
   rw [List.flatMap_cons, List.length_append, List.length_cons, Nat.mul_succ]; omega
end Go.Proofs.YtheefckohnaceaaGreatDoor

namespace Go.Proofs.YtheefckohnaceaaGreatDoor
open Go.RowKit
set_option linter.unusedVariables false

theorem rM_le (x : Nat) : rM x * 2 ^ rE x ≤ x := Nat.div_mul_le_self _ _
set_option maxRecDepth 4000 in
set_option maxHeartbeats 400000 in
theorem split_any (x : Nat) (w : World) (hx : x < 18446744073709551616) :
 Calls Tryz.prog 72 #[.int .u64 (x : Int)] w fun r w' => r = .returned (.tuple #[.int .u64 (rM x : Int), .int .i64 (rE x : Int)]) ∧ w = w' := by
 have HL := Lib.hid (fun W => len64_any x W hx)
 have hL64 := Lib.bitLen_le x 64 (by omega) hx
 have hdiv : (x : Int) / 2 ^ rE x = (rM x : Int) := by unfold rM; rw [Int.natCast_ediv]; simp
 have hE : rE x = Lib.bitLen x - 18 := rfl
 obtain ⟨L, hL⟩ : ∃ L, L = Lib.bitLen x := ⟨_, rfl⟩
 rw [← hL] at HL hL64 hE
 obtain ⟨e, he⟩ : ∃ e, e = rE x := ⟨_, rfl⟩
 obtain ⟨m, hm⟩ : ∃ m, m = rM x := ⟨_, rfl⟩
 rw [← he, ← hm] at hdiv
 rw [← he] at hE
 rw [← he, ← hm]
 have e1 : IntKind.i64.wrap ((L : Int) - 18) = (L : Int) - 18 := by rw [IntKind.wrap_i64]; omega
 have e2 : max ((L : Int) - 18) 0 = (e : Int) := by omega
 clear hL he hm hx
 rcases Nat.lt_trichotomy L 18 with h18 | h18 | h18
 · have g1 : (L : Int) - 18 ≤ 0 := by omega
   have g2 : (L : Int) - 18 < 0 := by omega
   have g3 : ¬ 0 < (L : Int) - 18 := by omega
   have g4 : ¬ 0 ≤ (L : Int) - 18 := by omega
   have e0 : e = 0 := by omega
   subst e0
   have hd : Hid ((x : Int) = (m : Int)) := Lib.hid (by simpa using hdiv)
   clear hE h18 e2 hdiv
   go_enter Tryz.func72, Tryz.ntmps72
   go_wp2_with (go_at_call 89; ((with_reducible refine (Hid.out HL _).mono ?_); rintro r wx ⟨rfl, rfl⟩))
   go_ret2
   exact ⟨by rw [← hd.out]; rfl, rfl⟩
 · have e0 : e = 0 := by omega
   subst e0
   have hd : Hid ((x : Int) = (m : Int)) := Lib.hid (by simpa using hdiv)
   clear hE e2 hdiv
   subst h18
   go_enter Tryz.func72, Tryz.ntmps72
   go_wp2_with (go_at_call 89; ((with_reducible refine (Hid.out HL _).mono ?_); rintro r wx ⟨rfl, rfl⟩))
   go_ret2
   exact ⟨by rw [← hd.out]; rfl, rfl⟩
 · have g1 : ¬ (e : Int) ≤ 0 := by omega
   have g2 : (L : Int) - 18 = (e : Int) := by omega
   have g3 : ¬ (e : Int) < 0 := by omega
   have g4 : 0 < (e : Int) := by omega
   clear hE h18 e2
   go_enter Tryz.func72, Tryz.ntmps72
   go_wp2_with (go_at_call 89; ((with_reducible refine (Hid.out HL _).mono ?_); rintro r wx ⟨rfl, rfl⟩))
   go_ret2
   exact ⟨rfl, rfl⟩

set_option maxRecDepth 100000 in
set_option maxHeartbeats 400000 in
theorem rateMayBe_any (x : Nat) (w : World) (hx : x < 18446744073709551616) (b : Bool) (hb : b = true ↔ x < 9223372036854775808 ∧ rM x * 2 ^ rE x = x) :
 Calls Tryz.prog 51 #[.int .u64 (x : Int)] w fun r w' => r = .returned (.bool b) ∧ w = w' := by
 have HS := Lib.hid (fun W => split_any x W hx)
 have hE := rE_lt x hx
 have hle := rM_le x
 obtain ⟨e, he⟩ : ∃ e, e = rE x := ⟨_, rfl⟩
 obtain ⟨m, hm⟩ : ∃ m, m = rM x := ⟨_, rfl⟩
 rw [← he, ← hm] at HS hb hle
 rw [← he] at hE
 obtain ⟨R, hR⟩ : ∃ R, R = m * 2 ^ e := ⟨_, rfl⟩
 rw [← hR] at hb hle
 have hcast : (m : Int) * 2 ^ e = (R : Int) := by rw [hR]; simp
 have e5 : IntKind.u64.wrap ((m : Int) * 2 ^ e) = (R : Int) := by rw [hcast, IntKind.wrap_u64]; omega
 have hsh : Op.shift .shl .u64 (m : Int) .i64 (e : Int) = pure (.int .u64 (R : Int)) := by
  have h0 : ¬ ((e : Int) < 0) := by omega
  unfold Op.shift
  rw [if_neg h0]
  simp only [Int.toNat_natCast, IntKind.bits]
  rw [Nat.min_eq_left (by omega), e5]
 have big : (x : Int) < 18446744073709551616 := by omega
 have c2 : ((R : Int) == (x : Int)) = decide (R = x) := by
  rw [Bool.eq_iff_iff]; simp; omega
 clear he hm hR hcast hE
 by_cases h1 : x < 9223372036854775808
 · have g1 : (x : Int) < 9223372036854775808 := by omega
   by_cases h2 : R = x
   · have hbt : b = true := hb.2 ⟨h1, h2⟩
     subst hbt; subst h2
     clear h1 hb hx hle c2
     go_enter Tryz.func51, Tryz.ntmps51
     go_wp2_with (go_at_call 72; ((with_reducible refine (Hid.out HS _).mono ?_); rintro r wx ⟨rfl, rfl⟩))
     go_ret
     exact ⟨rfl, rfl⟩
   · have hbf : b = false := by cases b with
      | false => rfl
      | true => exact absurd (hb.1 rfl).2 h2
     subst hbf
     have g2 : ¬ (R : Int) = (x : Int) := by omega
     clear h1 hb hx hle c2
     go_enter Tryz.func51, Tryz.ntmps51
     go_wp2_with (go_at_call 72; ((with_reducible refine (Hid.out HS _).mono ?_); rintro r wx ⟨rfl, rfl⟩))
     go_ret
     exact ⟨by simp; omega, rfl⟩
 · have g1 : (9223372036854775808 : Int) ≤ (x : Int) := by omega
   have hbf : b = false := by cases b with
    | false => rfl
    | true => exact absurd (hb.1 rfl).1 h1
   subst hbf
   clear h1 hb hx hle c2 big e5 hsh
   obtain ⟨X, hX⟩ : ∃ X : Int, X = (x : Int) := ⟨_, rfl⟩
   rw [← hX] at HS g1 ⊢
   clear hX
   go_enter Tryz.func51, Tryz.ntmps51
   go_wp2_with (go_at_call 72; ((with_reducible refine (Hid.out HS _).mono ?_); rintro r wx ⟨rfl, rfl⟩))
   go_ret
   exact ⟨rfl, rfl⟩

def CtRd (w : World) (cs : List Value) (c : Ctl) : Prop := ∃ (A : Option Addr) (a : Nat) (B : Option Addr) (b' : Nat) (C : Option Addr) (c' : Nat) (D : Option Addr) (d : Nat) (E : Option Addr) (e : Nat),
 cs = ctlC c.k c.so c.me c.ti c.st c.pa c.oc (.slice A c.reps.length a) (.slice B c.nams.length b') (.slice C c.srcs.length c') (.slice D c.loss.length d) (.slice E c.firs.length e) c.ra ∧
 RdG 7 w A (c.reps.map cRep) ∧ RdG 2 w B (c.nams.map cNam) ∧ RdG 1 w C (c.srcs.map cSrc) ∧ RdG 2 w D (c.loss.map cLos) ∧ RdG 2 w E (c.firs.map cFir)
theorem CtRd.below {w w' : World} {cs : List Value} {c : Ctl} (h : CtRd w cs c) (hb : Below w.heap.size w w') : CtRd w' cs c := by
 obtain ⟨A, a, B, b', C, c', D, d, E, e, h0, h1, h2, h3, h4, h5⟩ := h
 exact ⟨A, a, B, b', C, c', D, d, E, e, h0, h1.below hb, h2.below hb, h3.below hb, h4.below hb, h5.below hb⟩
theorem CtRd.one {w : World} {cs : List Value} {c : Ctl} (h : CtRd w cs c) : ∀ v ∈ cs, v.oneCell' = true := by
 obtain ⟨A, a, B, b', C, c', D, d, E, e, h0, _⟩ := h
 subst h0
 exact ctlC_one _ _ _ _ _ _ _ _ _ _ _ _ _ _ _ _ _ _ _ _ _ _ _
theorem CtRd.len {w : World} {cs : List Value} {c : Ctl} (h : CtRd w cs c) : cs.length = 13 := by
 obtain ⟨A, a, B, b', C, c', D, d, E, e, h0, _⟩ := h
 subst h0; rfl
theorem OwnC.rd {w : World} {b : Nat} {cs : List Value} {c : Ctl} (h : OwnC w b cs c) : CtRd w cs c := by
 obtain ⟨A, a, B, b', C, c', D, d, E, e, h0, h1, h2, h3, h4, h5⟩ := h
 exact ⟨A, a, B, b', C, c', D, d, E, e, h0, RdG.of_own h1 rfl (fun _ _ => rfl), RdG.of_own h2 rfl (fun _ _ => rfl), RdG.of_own h3 rfl (fun _ _ => rfl), RdG.of_own h4 rfl (fun _ _ => rfl), RdG.of_own h5 rfl (fun _ _ => rfl)⟩
def Ctl.small (c : Ctl) : Prop := c.reps.length ≤ 100 ∧ c.nams.length ≤ 100 ∧ c.srcs.length ≤ 100 ∧ c.loss.length ≤ 100 ∧ c.firs.length ≤ 100 ∧ ∀ x ∈ c.nams, x.2.length ≤ 100
def longN (c : Ctl) : Nat := max (max (max (max c.reps.length c.nams.length) c.srcs.length) c.loss.length) c.firs.length
theorem box_facts (w : World) (cs : List Value) (c : Ctl) (h : CtRd w cs c) : BlkV (w.alloc (.cells cs.toArray 58)) w.heap.size 58 cs ∧ CtRd (w.alloc (.cells cs.toArray 58)) cs c ∧ Below w.heap.size w (w.alloc (.cells cs.toArray 58)) :=
 ⟨BlkV.new _ _ _, h.below ((Below.refl _ _).alloc (Nat.le_refl _) _), (Below.refl _ _).alloc (Nat.le_refl _) _⟩

theorem ite_max (a b : Int) : (if b > a then b else a) = max a b := by split <;> omega

theorem run_max5 (P : Program) (a1 : Array TypeId) (t : TypeId) (a b c d e : Int) (w : World) : Sem.run P (Builtin.max_ a1 t #[.int .i64 a, .int .i64 b, .int .i64 c, .int .i64 d, .int .i64 e]) w = .ok (.int .i64 (max (max (max (max a b) c) d) e)) w := by
 simp only [Builtin.max_, List.foldlM, Builtin.max2, Sem.run_pure, pure_bind, ite_max]

set_option maxRecDepth 100000 in
set_option maxHeartbeats 1000000 in
theorem longest_any (cs : List Value) (c : Ctl) (w : World) (h : CtRd w cs c) :
 Calls Tryz.prog 70 #[.agg cs.toArray] w fun r w' => r = .returned (.int .i64 (longN c : Int)) ∧ Below w.heap.size w w' := by
 obtain ⟨B0, _, b0⟩ := box_facts w cs c h
 obtain ⟨A, a, B, b', C, c', D, d, E, e, h0, _⟩ := h
 have k7 : (w.alloc (.cells cs.toArray 58)).cell? ⟨w.heap.size, 7, none⟩ = some (.slice A c.reps.length a) := by rw [B0.cell, h0]; rfl
 have k8 : (w.alloc (.cells cs.toArray 58)).cell? ⟨w.heap.size, 8, none⟩ = some (.slice B c.nams.length b') := by rw [B0.cell, h0]; rfl
 have k9 : (w.alloc (.cells cs.toArray 58)).cell? ⟨w.heap.size, 9, none⟩ = some (.slice C c.srcs.length c') := by rw [B0.cell, h0]; rfl
 have ka : (w.alloc (.cells cs.toArray 58)).cell? ⟨w.heap.size, 10, none⟩ = some (.slice D c.loss.length d) := by rw [B0.cell, h0]; rfl
 have kb : (w.alloc (.cells cs.toArray 58)).cell? ⟨w.heap.size, 11, none⟩ = some (.slice E c.firs.length e) := by rw [B0.cell, h0]; rfl
 have hL : longN c = max (max (max (max c.reps.length c.nams.length) c.srcs.length) c.loss.length) c.firs.length := rfl
 obtain ⟨n1, h1⟩ : ∃ n, n = c.reps.length := ⟨_, rfl⟩
 obtain ⟨n2, h2⟩ : ∃ n, n = c.nams.length := ⟨_, rfl⟩
 obtain ⟨n3, h3⟩ : ∃ n, n = c.srcs.length := ⟨_, rfl⟩
 obtain ⟨n4, h4⟩ : ∃ n, n = c.loss.length := ⟨_, rfl⟩
 obtain ⟨n5, h5⟩ : ∃ n, n = c.firs.length := ⟨_, rfl⟩
 rw [← h1] at k7 hL
 rw [← h2] at k8 hL
 rw [← h3] at k9 hL
 rw [← h4] at ka hL
 rw [← h5] at kb hL
 obtain ⟨N, hN⟩ : ∃ N, N = longN c := ⟨_, rfl⟩
 rw [← hN] at hL ⊢
 have e5 : max (max (max (max (n1 : Int) n2) n3) n4) n5 = (N : Int) := by omega
 clear h0 h1 h2 h3 h4 h5 hN hL B0
 go_enter Tryz.func70, Tryz.ntmps70
 go_wp2
 rw [run_max5, e5]
 go_wp2
 go_ret
 exact ⟨rfl, b0⟩
end Go.Proofs.YtheefckohnaceaaGreatDoor
