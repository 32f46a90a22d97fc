/- The walk of the statement RtpOwn: whatever the bytes, it is true. Conditions: none. -/
import Derived.Test.YticbajagccemoaaRtpReads
namespace Go.Proofs.Yticbajagccemoaa
open Go.RowKit
set_option linter.unusedVariables false

set_option maxRecDepth 100000 in
set_option maxHeartbeats 2000000 in
theorem rtpOwn_walk (a0 : Option Addr) (len0 cap0 : Nat) (bs : List UInt8) (w : World) (hr : RdS w a0 len0 cap0 bs) :
    Calls Try.prog 6 #[.slice a0 len0 cap0] w fun e w' => e = .returned (.bool true) ∧ Below w.heap.size w w' := by
  have hz := zero28
  have hs := hr.small
  have HA := Lib.hid (alive_any w)
  have HR := Lib.hid hr
  by_cases hbig : 3000 < len0
  · clear hr
    go_enter Try.func6, Try.ntmps6
    go_wp2_with (go_at_call 7; ((with_reducible refine (Hid.out HA).mono ?_); rintro e w1 ⟨rfl, hb1⟩))
    go_ret
    exact ⟨rfl, hb1⟩
  · have hl := hr.len
    obtain ⟨P, hP⟩ : ∃ P, P = pktA bs := ⟨_, rfl⟩
    have R1 := Lib.hid (fun A c wx hx => read_all A len0 c bs wx hx)
    have R2 := Lib.hid (fun wx hx => rread_all a0 len0 cap0 bs wx hx)
    simp only [← hP] at R1 R2
    clear hr hP
    go_enter Try.func6, Try.ntmps6
    go_wp2_with (first
      | (go_at_call 7; ((with_reducible refine (Hid.out HA).mono ?_); rintro e w1 ⟨rfl, hb1⟩; have g1 := Lib.hid hb1; have r1 := Lib.hid (HR.out.below hb1); clear hb1))
      | (at_builtin; refine wpList_append_rd _ rfl (.tmp 15) (.tmp 16) rfl Try.underlying22 u8_info w1.heap.size (.slice (some ⟨w1.heap.size, 0, none⟩) 0 0) 0 [] rfl (World.ownsRow_lit w1 #[] 0 (Nat.le_refl _) (by simp) rfl) a0 len0 cap0 bs rfl (r1.out.below ((Below.refl _ _).alloc (Nat.le_refl _) _)) (by omega) (by simp) ?_; intro v2 w2 hown2 hg2 hat2; rw [Nat.zero_add, List.nil_append] at hown2; obtain ⟨A2, c2, hv2⟩ := own_form hown2; subst hv2; have k2 := Lib.hid hown2; have b2 : Hid (Below w1.heap.size w1 w2) := Lib.hid (((Below.refl w1.heap.size w1).alloc (Nat.le_refl _) _).grown hg2 (by simp) (fun k hk => by simp [Value.ownBlock] at hk; omega)); clear hown2 hg2 hat2)
      | (go_at_call 8; ((with_reducible refine (Hid.out R1 _ _ _ (RdS.of_own k2.out)).mono ?_); rintro e w3 ⟨cs, rfl, hpk, hb3⟩; have b3 := Lib.hid (b2.out.trans (hb3.mono b2.out.size)); have k3 := Lib.hid (own_below k2.out hb3); have p3 := Lib.hid hpk; have s3 := Lib.hid hb3.size; have l3 : Hid (0 + cs.length ≤ zeroC.length) := Lib.hid (by rw [hpk.len]; exact Nat.le_refl 11); clear hb3 hpk))
      | ((with_reducible refine wpList_st rfl 28 (.tmp 4) (.tmp 21) rfl w3.heap.size 0 cs rfl rfl 28 zeroC (BlkV.new w3 _ _) l3.out (row11 p3.out.len) p3.out.one ?_); intro w4 hB4 ho4; rw [splice_all _ _ (zlen.trans p3.out.len.symm)] at hB4; obtain ⟨hb4, hk4⟩ := boxed (w := w) p3.out ho4; have b4 := Lib.hid (b3.out.trans (hb4.mono b3.out.size)); have k4 := Lib.hid (own_below k3.out hb4); have p4 := Lib.hid hk4; have B4 := Lib.hid hB4; have s4 := Lib.hid hb4.size; clear hb4 hk4 hB4 ho4)
      | (go_at_call 9; ((with_reducible refine (Hid.out R2 _ (r1.out.below b4.out)).mono ?_); rintro e w5 ⟨cs5, rfl, hpk, hb5⟩; have b5 := Lib.hid (b4.out.trans (hb5.mono b4.out.size)); have k5 := Lib.hid (own_below k4.out hb5); have p5 := Lib.hid (p4.out.below hb5); have q5 := Lib.hid hpk; have s5 := Lib.hid hb5.size; have B5 := Lib.hid (B4.out.below hb5 B4.out.lt); have l5 : Hid (0 + cs5.length ≤ zeroC.length) := Lib.hid (by rw [hpk.len]; exact Nat.le_refl 11); clear hb5 hpk))
      | ((with_reducible refine wpList_st rfl 28 (.tmp 6) (.tmp 26) rfl w5.heap.size 0 cs5 rfl rfl 28 zeroC (BlkV.new w5 _ _) l5.out (row11 q5.out.len) q5.out.one ?_); intro w6 hB6 ho6; rw [splice_all _ _ (zlen.trans q5.out.len.symm)] at hB6; obtain ⟨hb6, hk6⟩ := boxed (w := w) q5.out ho6; have b6 := Lib.hid (b5.out.trans (hb6.mono b5.out.size)); have k6 := Lib.hid (own_below k5.out hb6); have p6 := Lib.hid (p5.out.below hb6); have q6 := Lib.hid hk6; have B6 := Lib.hid (B5.out.below hb6 B5.out.lt); have C6 := Lib.hid hB6; clear hb6 hk6 hB6 ho6))
    have hg0 : Hid (∀ q, (Value.slice A2 len0 c2).ownBlock = some q → q < w2.heap.size ∧ w1.heap.size ≤ q) := Lib.hid (fun q hq => ⟨(k2.out.lt q hq).2, (k2.out.lt q hq).1⟩)
    have z23 : Hid (w2.heap.size ≤ w3.heap.size ∧ w3.heap.size ≤ w4.heap.size ∧ w4.heap.size ≤ w5.heap.size) := Lib.hid ⟨s3.out, s4.out, s5.out⟩
    have HT : Hid (w6.ownsRow w1.heap.size 5 1 (.slice A2 len0 c2) len0 (cells bs) ∧ PkOwn w6 w2.heap.size cs P ∧ PkOwn w6 w4.heap.size cs5 P ∧ BlkV w6 w3.heap.size 28 cs ∧ BlkV w6 w5.heap.size 28 cs5 ∧ Below w1.heap.size w1 w6) := Lib.hid ⟨k6.out, p6.out, q6.out, B6.out, C6.out, b6.out⟩
    clear k2 k3 k4 k5 k6 p3 p4 p5 p6 q5 q6 B4 B5 B6 C6 b2 b3 b4 b5 b6 R1 R2 HA s3 s4 s5
    go_loopw [9] (fun i wr => ∃ (k : Nat) (L : List UInt8), k ≤ len0 ∧ i = .int .i64 k ∧ Hid (wr.ownsRow w1.heap.size 5 1 (.slice A2 len0 c2) len0 (cells L) ∧ PkOwn wr w2.heap.size cs P ∧ PkOwn wr w4.heap.size cs5 P ∧ BlkV wr w3.heap.size 28 cs ∧ BlkV wr w5.heap.size 28 cs5 ∧ Below w1.heap.size w1 wr)) (fun i _ => len0 - (intOf i).toNat)
    case atStart => exact ⟨0, bs, by omega, rfl, HT⟩
    case round =>
      obtain ⟨k, L, hk, rfl, HL⟩ := hrel
      by_cases hkn : k < len0
      · obtain ⟨how, hp, hq, hB, hC, hb⟩ := HL.out
        obtain ⟨g, cap, hv, hgb, hgl⟩ := how.form (by omega)
        injection hv with hv1 hv2 hv3
        subst hv1; subst hv3
        have hLl : L.length = len0 := by simpa [length_cells] using how.1
        have hcell : wr.cell? ⟨g, k, none⟩ = some (.int .u8 ((L.getD k 0).toNat : Int)) := by rw [how.cellAt k (by omega), cells_at (by omega)]
        have hfr := how.frozenAt k
        obtain ⟨x, hx⟩ : ∃ x : UInt8, x = L.getD k 0 := ⟨_, rfl⟩
        rw [← hx] at hcell
        have hxor : bits BinOp.xor IntKind.u8 (x.toNat : Int) 255 = ((x ^^^ 255 : UInt8).toNat : Int) := by
          have := u8_xor_nat x.toNat 255 x.toNat_lt (by omega)
          rw [UInt8.toNat_xor]
          exact this
        obtain ⟨z, hzz⟩ : ∃ z : UInt8, z = x ^^^ 255 := ⟨_, rfl⟩
        rw [← hzz] at hxor
        have hg2 := hg0.out g rfl
        have hz3 := z23.out
        have ho := Only.set wr g k (.int .u8 (z.toNat : Int))
        have hst : (wr.setCell ⟨g, k, none⟩ (.int .u8 (z.toNat : Int))).ownsRow w1.heap.size 5 1 (.slice (some ⟨g, 0, none⟩) len0 c2) len0 (cells (L.set k z)) := by
          rw [← cells_set]
          exact (how.stored k _).1
        have HL2 : Hid ((wr.setCell ⟨g, k, none⟩ (.int .u8 (z.toNat : Int))).ownsRow w1.heap.size 5 1 (.slice (some ⟨g, 0, none⟩) len0 c2) len0 (cells (L.set k z)) ∧ PkOwn (wr.setCell ⟨g, k, none⟩ (.int .u8 (z.toNat : Int))) w2.heap.size cs P ∧ PkOwn (wr.setCell ⟨g, k, none⟩ (.int .u8 (z.toNat : Int))) w4.heap.size cs5 P ∧ BlkV (wr.setCell ⟨g, k, none⟩ (.int .u8 (z.toNat : Int))) w3.heap.size 28 cs ∧ BlkV (wr.setCell ⟨g, k, none⟩ (.int .u8 (z.toNat : Int))) w5.heap.size 28 cs5 ∧ Below w1.heap.size w1 (wr.setCell ⟨g, k, none⟩ (.int .u8 (z.toNat : Int)))) :=
          Lib.hid ⟨hst, hp.only ho (by omega), hq.only ho (by omega), hB.only ho (by omega), hC.only ho (by omega), hb.trans (ho.below hg2.2)⟩
        clear how hp hq hB hC hb hx hzz hst ho HL hz3 hg2
        go_wp2
        go_roundw
        case rel => exact ⟨k + 1, L.set k z, by omega, by go_num, HL2⟩
        case measure => simp [intOf]; omega
      · have hkm : k = len0 := by omega
        subst hkm
        go_wp2_with (first
          | (with_reducible refine wpList_ld rfl 28 (.tmp 4) rfl w3.heap.size 0 rfl cs (HL.out.2.2.2.1.range 0 _ (fun i _ => by rw [Nat.zero_add])) (row11 HL.out.2.1.len) ?_)
          | (with_reducible refine wpList_ld rfl 28 (.tmp 6) rfl w5.heap.size 0 rfl cs5 (HL.out.2.2.2.2.1.range 0 _ (fun i _ => by rw [Nat.zero_add])) (row11 HL.out.2.2.1.len) ?_)
          | (go_at_call 11; ((with_reducible refine (same_any cs cs5 P _ HL.out.2.1.rd HL.out.2.2.1.rd).mono ?_); rintro e w7 ⟨rfl, hb7⟩)))
        go_ret
        have hb := HL.out.2.2.2.2.2
        exact ⟨rfl, (g1.out.trans (hb.mono g1.out.size)).trans (hb7.mono (Nat.le_trans g1.out.size hb.size))⟩
end Go.Proofs.Yticbajagccemoaa
