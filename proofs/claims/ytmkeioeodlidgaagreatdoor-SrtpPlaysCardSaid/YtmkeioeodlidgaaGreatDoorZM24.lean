/- Several texts in one: plain words and walks. No statement is proved here. -/
import Derived.Test.YtmkeioeodlidgaaGreatDoorZM22
import Derived.Test.YtmkeioeodlidgaaGreatDoorZM23
import Derived.Test.YtmkeioeodlidgaaGreatDoorZM0
import Derived.Test.YtmkeioeodlidgaaGreatDoorZM5
import Derived.Lib.AppendStr
import Derived.Lib.AppendZerosOnto
import Derived.Test.YtmkeioeodlidgaaGreatDoorZM1
namespace Go.Proofs.YtmkeioeodlidgaaGreatDoor
open Go.RowKit
set_option linter.unusedVariables false

section
variable (g b : Nat) (y : Wy) (w : World) (h : PWay w g b y) (hf : y.fit)
include h hf
theorem used15_any : Calls Tryz.prog 11 #[.pointer (some ⟨g, 0, none⟩)] w fun e w' => e = .returned (.int .i64 y.used) ∧ w = w' := by
 have c51 := (h.cells_ hf).2.1
 clear h
 go_enter Tryz.func11, Tryz.ntmps11
 go_wp2
 go_ret
 exact ⟨rfl, rfl⟩
theorem sources15_any : Calls Tryz.prog 15 #[.pointer (some ⟨g, 0, none⟩)] w fun e w' => e = .returned (.int .i64 (y.ws.length : Nat)) ∧ w = w' := by
 have c52 := (h.cells_ hf).2.2
 have hln := fun ty => h.m.len_ ty
 clear h
 go_enter Tryz.func15, Tryz.ntmps15
 go_wp2
 go_ret
 exact ⟨rfl, rfl⟩
theorem spent15_any (t : Bool) (ht : t = decide (y.limit ≤ y.used)) : Calls Tryz.prog 21 #[.pointer (some ⟨g, 0, none⟩)] w fun e w' => e = .returned (.bool t) ∧ Below w.heap.size w w' := by
 have c50 := (h.cells_ hf).1
 have c51 := (h.cells_ hf).2.1
 have HT := Lib.hid ht
 have HB := Lib.hid ((Below.refl w.heap.size w).drew)
 generalize y.limit = L at *
 generalize y.used = U at *
 clear h ht
 go_enter Tryz.func21, Tryz.ntmps21
 go_upto_region 1 with (fail)
 go_region
 go_wp2
 go_ret
 exact ⟨ret_b HT.out.symm, HB.out⟩
theorem high15_any (x : Nat) (hg : y.good) (hx : x < 4294967296) : Calls Tryz.prog 16 #[.pointer (some ⟨g, 0, none⟩), .int .u32 (x : Int)] w fun e w' => e = .returned (.int .i64 (highW y.ws x)) ∧ Below w.heap.size w w' := by
 have c52 := (h.cells_ hf).2.2
 obtain ⟨hh, p, hW, hlk⟩ := h.m.look hf.2.2.2.2.2.2 hx
 have hlk0 := hlk false
 simp only [Bool.false_eq_true, if_false] at hlk0
 have HWA : Hid (WinAt (w.alloc (.cells #[.int .i64 hh, .int .u64 (p : Int)] 98)) w.heap.size (winW y.ws x)) := Lib.hid ⟨hh, p, hW, BlkV.new w _ [.int .i64 hh, .int .u64 (p : Int)]⟩
 have HH := Lib.hid (high_any w.heap.size (winW y.ws x) _ HWA.out)
 have HB := Lib.hid ((Below.refl w.heap.size w).alloc (Nat.le_refl _) (.cells #[.int .i64 hh, .int .u64 (p : Int)] 98))
 have HE := Lib.hid (highW_win y.ws x)
 clear h hlk hW
 go_enter Tryz.func16, Tryz.ntmps16
 go_wp2_with (go_at_call 40; ((with_reducible refine (Hid.out HH).mono ?_); rintro e w' ⟨rfl, rfl⟩))
 go_ret
 exact ⟨ret_i HE.out.symm, HB.out⟩
end
theorem rounds15_any (i : Nat) (w : World) (hi : i < 9223372036854775808) : Calls Tryz.prog 26 #[.int .i64 (i : Int)] w fun e w' => ∃ A c, e = .returned (.slice A 4 c) ∧ RdS w' A 4 c (beb 4 (i / 65536)) ∧ Below w.heap.size w w' := by
 have q1 : Int.tdiv (i : Int) 65536 = ((i / 65536 : Nat) : Int) := by rw [Int.tdiv_eq_ediv_of_nonneg (by omega)]; omega
 obtain ⟨z, hz⟩ : ∃ z, z = i / 65536 := ⟨_, rfl⟩
 have lz : z < 140737488355328 := by omega
 rw [← hz] at q1
 rw [← hz]
 have ew : IntKind.u64.wrap (z : Int) = (z : Int) := by rw [IntKind.wrap_u64]; omega
 have HP := Lib.hid (putW w w none 0 0 [] 4 z 4 4 rfl rfl (Below.refl _ _) (RdS.nil w) (by omega) (by omega) (by omega) (by omega))
 clear hz
 go_enter Tryz.func26, Tryz.ntmps26
 go_wp2_with (go_at_call 47; ((with_reducible refine (Hid.out HP).mono ?_); rintro e w' ⟨q, rfl, hB, hq, hb⟩; have HB := Lib.hid hB; have HBB := Lib.hid hb; clear hB hb))
 go_ret
 exact ⟨_, 4, rfl, by simpa using HB.out.rdN (by simp [length_beb]) (by omega), HBB.out⟩
theorem cut15_any (A : Option Addr) (n c : Nat) (bs : List UInt8) (w : World) (hr : RdS w A n c bs) (N : Nat) (hN : n = N + 10) (hn : n ≤ 100000) : Calls Tryz.prog 32 #[.slice A n c] w fun e w' => ∃ A' , e = .returned (.tuple #[.slice A N c, .slice A' 10 (c - N)]) ∧ Below w.heap.size w w' ∧ ∀ wx bs, RdS wx A n c bs → RdS wx A' 10 (c - N) (bs.drop N) := by
 have hln := hr.le
 have HRL : Hid (∀ wx bs, RdS wx A n c bs → RdS wx (Option.map (fun x => x.add N) A) 10 (c - N) (bs.drop N)) := Lib.hid (fun wx bs h => by
  have := h.cut N (by omega)
  rwa [show n - N = 10 by omega, if_neg (by omega), Nat.mul_one] at this)
 have hle := hr.le
 have hs := hr.small
 have hcm : c ≤ 9223372036854775807 := hs.2
 have hNc : N ≤ c := by omega
 have HB := Lib.hid ((Below.refl w.heap.size w).drew)
 have e1 : (n : Int) - 10 = (N : Int) := by omega
 clear hr
 go_enter Tryz.func32, Tryz.ntmps32
 go_upto_region 2 with (fail)
 go_region
 go_wp2
 go_ret2
 exact ⟨_, rfl, HB.out, HRL.out⟩
theorem isIndex15_any (i : Int) (q : Nat) (w : World) (hq : q < 65536) (hi : -9223372036854775808 ≤ i ∧ i ≤ 9223372036854775807) (t : Bool) (ht : t = decide (0 ≤ i ∧ i < 281474976710656 ∧ i % 65536 = (q : Int))) :
 Calls Tryz.prog 23 #[.int .i64 i, .int .u16 (q : Int)] w fun e w' => e = .returned (.bool t) ∧ w = w' := by
 have HT := Lib.hid ht
 clear ht
 by_cases h1 : i < 0
 · go_enter Tryz.func23, Tryz.ntmps23
   go_wp2
   go_ret
   exact ⟨ret_b (HT.out.trans (decide_eq_false (by omega))).symm, rfl⟩
 by_cases h2 : (281474976710656 : Int) ≤ i
 · go_enter Tryz.func23, Tryz.ntmps23
   go_wp2
   go_ret
   exact ⟨ret_b (HT.out.trans (decide_eq_false (by omega))).symm, rfl⟩
 have HS := Lib.hid (fun W => seq_any i W)
 by_cases h3 : i % 65536 = (q : Int)
 · go_enter Tryz.func23, Tryz.ntmps23
   go_wp2_with (go_at_call 50; ((with_reducible refine (HS.out _).mono ?_); rintro e w' ⟨rfl, rfl⟩))
   go_ret
   exact ⟨ret_b (HT.out.trans (decide_eq_true ⟨by omega, by omega, h3⟩)).symm, rfl⟩
 · have h3' : ((i % 65536) == (q : Int)) = false := by simpa using h3
   go_enter Tryz.func23, Tryz.ntmps23
   go_wp2_with (go_at_call 50; ((with_reducible refine (HS.out _).mono ?_); rintro e w' ⟨rfl, rfl⟩))
   go_ret
   exact ⟨ret_b (HT.out.trans (decide_eq_false (fun k => h3 k.2.2))).symm, rfl⟩
theorem and15 (x : Nat) (h : x < 256) : bits .and .u8 (x : Int) 15 = ((x % 16 : Nat) : Int) := by
 have e : ∀ x : Fin 256, x.val &&& 15 = x.val % 16 := by decide +kernel
 rw [show (15 : Int) = ((15 : Nat) : Int) from rfl, u8_and_nat _ _ h (by omega), e ⟨x, h⟩]
theorem and16S (x : Nat) (h : x < 256) : bits .and .u8 (x : Int) 16 = if x / 16 % 2 = 1 then 16 else 0 := by
 have e : ∀ x : Fin 256, x.val &&& 16 = if x.val / 16 % 2 = 1 then 16 else 0 := by decide +kernel
 rw [show (16 : Int) = ((16 : Nat) : Int) from rfl, u8_and_nat _ _ h (by omega), e ⟨x, h⟩]
 split <;> rfl
theorem shr6 (x : Nat) (h : x < 256) : Op.shift .shr .u8 (x : Int) .u64 6 = pure (.int .u8 ((x / 64 : Nat) : Int)) := by
 have h0 : ¬ ((6 : Int) < 0) := by omega
 unfold Op.shift
 rw [if_neg h0]
 simp only [IntKind.bits]
 congr 2
 rw [show min (6 : Int).toNat 8 = 6 from rfl, Int.fdiv_eq_ediv_of_nonneg _ (by decide)]
 simp
set_option maxRecDepth 100000 in
set_option maxHeartbeats 1000000 in
theorem headSize15_any (A : Option Addr) (n c : Nat) (bs : List UInt8) (w : World) (hr : RdS w A n c bs) (h1 : 1 ≤ n) (hn : n ≤ 100000) :
 Calls Tryz.prog 51 #[.slice A n c] w fun e w' => (∃ h : Nat, e = .returned (.int .i64 (h : Int)) ∧ (at1 bs ≤ n → h = at1 bs) ∧ (n < at1 bs → n < h) ∧ h ≤ 300000) ∧ w = w' := by
 have hl := hr.len
 have hs := hr.small
 have HN1 := fun (k : at0 bs + 4 ≤ n) => num_yes A n c bs (at0 bs + 2) 2 w hr (by omega) (by omega) (by omega)
 have HN0 := fun (k : n < at0 bs + 4) => num_no A n c bs ((at0 bs + 2 : Nat) : Int) 2 w hr (by omega)
 obtain ⟨b, off, rfl, hlt, hcs⟩ := hr.2.2.2.2 (by omega)
 have c0 := hcs 0 (by omega)
 rw [Nat.add_zero] at c0
 obtain ⟨x0, hx⟩ : ∃ x0, x0 = (bs.getD 0 0).toNat := ⟨_, rfl⟩
 have hx2 : x0 < 256 := by rw [hx]; exact UInt8.toNat_lt _
 rw [← hx] at c0
 have hbt : bt bs 0 = x0 := hx.symm
 obtain ⟨H0, hH0⟩ : ∃ H0, H0 = at0 bs := ⟨_, rfl⟩
 have hH : H0 = 12 + 4 * (x0 % 16) := by rw [hH0]; unfold at0 othN; rw [hbt]
 have m1 := and15 x0 hx2
 have hx16 : (12 : Int) + 4 * ((x0 % 16 : Nat) : Int) = (H0 : Int) := by omega
 have hH9 : H0 ≤ 72 := by omega
 rw [← hH0] at HN1 HN0
 obtain ⟨y1, hy1⟩ : ∃ y, y = x0 % 16 := ⟨_, rfl⟩
 rw [← hy1] at m1 hx16
 have l1 : y1 < 16 := by omega
 cases hex : exBR bs with
 | false =>
   have he : bits .and .u8 (x0 : Int) 16 = 0 := by
    have := hex; unfold exBR at this; rw [hbt] at this
    rw [and16S x0 hx2, if_neg (by simpa using this)]
   have ha : at1 bs = H0 := by unfold at1; rw [hex, hH0]; rfl
   rw [ha]
   clear hr hcs hx hbt hH0 hex ha hH HN1 HN0 hy1
   go_enter Tryz.func51, Tryz.ntmps51
   go_wp2
   go_ret
   exact ⟨⟨H0, rfl, fun _ => rfl, fun k => k, by omega⟩, rfl⟩
 | true =>
   have he : bits .and .u8 (x0 : Int) 16 = 16 := by
    have := hex; unfold exBR at this; rw [hbt] at this
    rw [and16S x0 hx2, if_pos (by simpa using this)]
   have ha : at1 bs = H0 + 4 + 4 * wordsN bs := by unfold at1; rw [hex, hH0]; rfl
   have hw9 := words_lt bs
   have hV0 : wordsN bs = numb ((bs.drop (H0 + 2)).take 2) := by unfold wordsN; rw [hH0]
   obtain ⟨V, hV⟩ : ∃ V, V = wordsN bs := ⟨_, rfl⟩
   rw [← hV] at ha hw9 hV0
   rw [ha]
   have eH : (H0 : Int) + 2 = ((H0 + 2 : Nat) : Int) := by omega
   have eV : IntKind.i64.wrap (V : Int) = (V : Int) := by rw [IntKind.wrap_i64]; omega
   by_cases hsh : n < H0 + 4
   · have HN := HN0 hsh
     rw [← eH] at HN
     replace HN := Lib.hid HN
     clear hr hcs hx hbt hH0 hex ha hH HN1 HN0 hy1 hV hV0 eH
     go_enter Tryz.func51, Tryz.ntmps51
     go_wp2_with (go_at_call 74; ((with_reducible refine (Hid.out HN).mono ?_); rintro e w' ⟨rfl, rfl⟩))
     go_ret
     exact ⟨⟨H0 + 4, congrArg (fun z => Ending.returned (.int .i64 z)) (by omega), fun k => by omega, fun k => hsh, by omega⟩, rfl⟩
   · have HN : Hid (Calls Tryz.prog 74 #[.slice (some ⟨b, off, none⟩) n c, .int .i64 ((H0 : Int) + 2), .int .i64 2] w fun e w' => e = .returned (.tuple #[.int .u64 (V : Int), .bool true]) ∧ w = w') := Lib.hid (by
      have := HN1 (by omega)
      rw [← hV0, ← eH] at this
      exact this)
     obtain ⟨H1, hH1⟩ : ∃ H1, H1 = H0 + 4 + 4 * V := ⟨_, rfl⟩
     have eH1 : (H0 : Int) + 4 + 4 * (V : Int) = (H1 : Int) := by omega
     have hH9' : H1 ≤ 300000 := by omega
     rw [← hH1]
     clear hr hcs hx hbt hH0 hex ha hH hV hH1 HN1 HN0 hy1 hV0 eH
     go_enter Tryz.func51, Tryz.ntmps51
     go_wp2_with (go_at_call 74; ((with_reducible refine (Hid.out HN).mono ?_); rintro e w' ⟨rfl, rfl⟩))
     go_ret
     exact ⟨⟨H1, rfl, fun _ => rfl, fun k => k, hH9'⟩, rfl⟩
set_option maxRecDepth 100000 in
set_option maxHeartbeats 1000000 in
theorem peek15_any (A : Option Addr) (n c : Nat) (bs : List UInt8) (w : World) (hr : RdS w A n c bs) : Calls Tryz.prog 59 #[.slice A n c] w (P15 bs w) := by
 have hl := hr.len
 have hs := hr.small
 by_cases h12 : (1200 : Int) < (n : Int)
 · have HW := Lib.hid (P15.no (bs := bs) (w := w) (q := 3) (by unfold whyPeek; rw [if_pos (by omega)]) (by decide))
   clear hr hl
   go_enter Tryz.func59, Tryz.ntmps59
   go_wp2
   go_ret3
   exact HW.out
 by_cases h22 : (n : Int) < 22
 · have HW := Lib.hid (P15.no (bs := bs) (w := w) (q := 2) (by unfold whyPeek; rw [if_neg (by omega), if_pos (by omega)]) (by decide))
   clear hr hl
   go_enter Tryz.func59, Tryz.ntmps59
   go_wp2
   go_ret3
   exact HW.out
 obtain ⟨N, hN⟩ : ∃ N, n = N + 10 := ⟨n - 10, by omega⟩
 have HCT := Lib.hid (cut15_any A n c bs w hr N hN (by omega))
 have HNN := Lib.hid hN
 have HR := Lib.hid hr
 obtain ⟨b, off, rfl, hlt, hcs⟩ := hr.2.2.2.2 (by omega)
 have c0 := hcs 0 (by omega)
 rw [Nat.add_zero] at c0
 have HN1 : Hid (∀ W, Below w.heap.size w W → Calls Tryz.prog 74 #[.slice (some ⟨b, off, none⟩) n c, .int .i64 8, .int .i64 4] W fun e w' => e = .returned (.tuple #[.int .u64 (soN bs : Int), .bool true]) ∧ W = w') := Lib.hid (fun W hb => num_yes (some ⟨b, off, none⟩) n c bs 8 4 W (hr.below hb) (by omega) (by omega) (by omega))
 have HN2 : Hid (∀ W, Below w.heap.size w W → Calls Tryz.prog 74 #[.slice (some ⟨b, off, none⟩) n c, .int .i64 2, .int .i64 2] W fun e w' => e = .returned (.tuple #[.int .u64 (sqN bs : Int), .bool true]) ∧ W = w') := Lib.hid (fun W hb => num_yes (some ⟨b, off, none⟩) n c bs 2 2 W (hr.below hb) (by omega) (by omega) (by omega))
 obtain ⟨x0, hx⟩ : ∃ x0, x0 = (bs.getD 0 0).toNat := ⟨_, rfl⟩
 have hx2 : x0 < 256 := by rw [hx]; exact UInt8.toNat_lt _
 rw [← hx] at c0
 have hbt : bt bs 0 = x0 := hx.symm
 obtain ⟨y, hy⟩ : ∃ y, y = x0 / 64 := ⟨_, rfl⟩
 have hsh := shr6 x0 hx2
 rw [← hy] at hsh
 have ly : y < 4 := by omega
 by_cases h2 : y = 2
 case neg =>
  have h2i : ((y : Int) != 2) = true := by simp; omega
  have HW := Lib.hid (P15.no (bs := bs) (w := w) (q := 3) (by unfold whyPeek; rw [if_neg (by omega), if_neg (by omega), if_pos (by rw [hbt]; omega)]) (by decide))
  clear hr hl hcs hx hbt hy h2 hN
  go_enter Tryz.func59, Tryz.ntmps59
  go_wp2
  go_ret3
  exact HW.out
 have h2i : ((y : Int) != 2) = false := by simp; omega
 have hso := soN_lt bs
 have hsq := sqN_lt bs
 have HHS : Hid (∀ W, Below w.heap.size w W → Calls Tryz.prog 51 #[.slice (some ⟨b, off, none⟩) N c] W fun e w' => (∃ h : Nat, e = .returned (.int .i64 (h : Int)) ∧ (at1 bs ≤ N → h = at1 bs) ∧ (N < at1 bs → N < h) ∧ h ≤ 300000) ∧ W = w') := Lib.hid (fun W hb => (headSize15_any _ N c (bs.take N) W ((hr.below hb).headR N (by omega)) (by omega) (by omega)).mono (by
  rintro e w' ⟨⟨h, he, k1, k2, k3⟩, hw⟩
  have t := at1_take (b := bs) (m := N) (by omega)
  refine ⟨⟨h, he, fun k => (k1 (by rw [t.1 k]; exact k)).trans (t.1 k), fun k => k2 (Nat.lt_of_not_le fun k' => ?_), k3⟩, hw⟩
  have := t.2 k'
  omega))
 have hN100 : N ≤ 1190 := by omega
 obtain ⟨SO, hSO⟩ : ∃ SO, SO = soN bs := ⟨_, rfl⟩
 obtain ⟨SQ, hSQ⟩ : ∃ SQ, SQ = sqN bs := ⟨_, rfl⟩
 rw [← hSO] at hso HN1
 rw [← hSQ] at hsq HN2
 have e1 : IntKind.u32.wrap (SO : Int) = (SO : Int) := by rw [IntKind.wrap_u32]; omega
 have e2 : IntKind.u16.wrap (SQ : Int) = (SQ : Int) := by rw [IntKind.wrap_u16]; omega
 by_cases hat : at1 bs ≤ N
 · have HW : Hid (∀ W, Below w.heap.size w W → P15 bs w (.returned (.tuple #[.int .u32 (SO : Int), .int .u16 (SQ : Int), .int .i64 0])) W) := Lib.hid (fun W hb => by
    have : whyPeek bs = 0 := by unfold whyPeek; rw [if_neg (by omega), if_neg (by omega), if_neg (by rw [hbt]; omega), if_neg (by omega)]
    exact ⟨fun _ => by rw [hSO, hSQ], fun h => absurd this h, hb⟩)
   have HAT := Lib.hid hat
   clear hr hl hcs hx hbt hy h2 hSO hSQ hat hN
   go_enter Tryz.func59, Tryz.ntmps59
   go_wp2_with (first
    | (go_at_call 32; ((with_reducible refine (Hid.out HCT).mono ?_); rintro e w1 ⟨A', rfl, hb1, hr1⟩; have HB1 := Lib.hid hb1; clear hb1 hr1))
    | (go_at_call 51; ((with_reducible refine (HHS.out _ HB1.out).mono ?_); rintro e w' ⟨⟨h, rfl, k1, k2, k3⟩, rfl⟩; have hle : ¬ ((N : Int) < (h : Int)) := (by have := k1 HAT.out; have := HAT.out; omega); clear k1 k2))
    | (go_at_call 74; ((with_reducible refine (HN1.out _ HB1.out).mono ?_); rintro e w' ⟨rfl, rfl⟩))
    | (go_at_call 74; ((with_reducible refine (HN2.out _ HB1.out).mono ?_); rintro e w' ⟨rfl, rfl⟩)))
   go_ret3
   exact HW.out _ HB1.out
 · have HW : Hid (∀ W, Below w.heap.size w W → P15 bs w (.returned (.tuple #[.int .u32 0, .int .u16 0, .int .i64 2])) W) := Lib.hid (fun W hb => by
    have h := P15.no (bs := bs) (w := w) (q := 2) (by unfold whyPeek; rw [if_neg (by omega), if_neg (by omega), if_neg (by rw [hbt]; omega), if_pos (by omega)]) (by decide)
    exact ⟨h.1, h.2.1, hb⟩)
   have HAT := Lib.hid (show N < at1 bs by omega)
   clear hr hl hcs hx hbt hy h2 hSO hSQ hat hN
   go_enter Tryz.func59, Tryz.ntmps59
   go_wp2_with (first
    | (go_at_call 32; ((with_reducible refine (Hid.out HCT).mono ?_); rintro e w1 ⟨A', rfl, hb1, hr1⟩; have HB1 := Lib.hid hb1; clear hb1 hr1))
    | (go_at_call 51; ((with_reducible refine (HHS.out _ HB1.out).mono ?_); rintro e w' ⟨⟨h, rfl, k1, k2, k3⟩, rfl⟩; have hle : (N : Int) < (h : Int) := (by have := k2 HAT.out; omega); clear k1 k2)))
   go_ret3
   exact HW.out _ HB1.out
theorem zero_cells (k : Nat) : Builtin.zeroCells #[Value.int .u8 0] k = (cells (List.replicate k 0)).toArray := by
 rw [cells_replicate]
 unfold Builtin.zeroCells
 apply Array.ext
 · simp
 · intro i h1 h2
   simp [Nat.mod_one]
theorem run_app_zeros (w : World) (base : Nat) (ty : TypeId) (v : Value) (n k : Nat) (bs : List UInt8) (hown : w.ownsRow base 5 1 v n (cells bs)) (hk : 1 ≤ k) (hn : n ≤ 1000000) (hk2 : k ≤ 1000000) (hbase : base ≤ w.heap.size) :
 ∃ v' w', (Builtin.append_ #[35, 3] ty #[v, .int .i64 (k : Int)]).run Tryz.prog w = .ok v' w' ∧ w'.ownsRow base 5 1 v' (n + k) (cells (bs ++ List.replicate k 0)) ∧ w.grownBy w' v.ownBlock := by
 obtain ⟨i, hi, hz, hsz, hby⟩ := info_parts u8_info
 have hl : (cells bs).length = n := by simpa using hown.1
 have hlen : (cells (bs ++ List.replicate k 0)).length = (n + k) * 1 := by rw [length_cells, List.length_append, List.length_replicate, ← length_cells bs, hl, Nat.mul_one]
 have hzc : (Value.int .u8 0).cells = #[.int .u8 0] := rfl
 have grown : ∀ (old : Nat) (row : Option Nat), old < n + k →
  (w.drew.alloc (.cells ((cells bs).toArray ++ Builtin.zeroCells (Value.int .u8 0).cells k ++ Builtin.zeroCells (Value.int .u8 0).cells (grownCap w (n + k) old 5 - (n + k))) 5)).ownsRow base 5 1
    (.slice (some ⟨w.heap.size, 0, none⟩) (n + k) (grownCap w (n + k) old 5)) (n + k) (cells (bs ++ List.replicate k 0)) ∧
  w.grownBy (w.drew.alloc (.cells ((cells bs).toArray ++ Builtin.zeroCells (Value.int .u8 0).cells k ++ Builtin.zeroCells (Value.int .u8 0).cells (grownCap w (n + k) old 5 - (n + k))) 5)) row := by
  intro old row ho
  have hge := grownCap_ge w (n + k) old 5
  have hcm : grownCap w (n + k) old 5 ≤ maxLen := grownCap_le_maxLen w (n + k) old 5 (by simp only [maxLen]; omega)
  refine ⟨⟨hlen, .inr ⟨w.heap.size, _, _, rfl, hbase, heap_alloc_new w.drew _, hge, hcm, ?_, ?_⟩⟩, ⟨rfl, rfl, rfl, by simp, fun q hq _ => heap_alloc_old w.drew _ hq⟩⟩
  · rw [hzc, zero_cells, zero_cells]
    simp only [Array.size_append, List.size_toArray, length_cells, List.length_replicate, hl, Nat.mul_one]
    rw [length_cells] at hl
    omega
  · rw [hzc, zero_cells, zero_cells]
    simp only [Array.toList_append, List.append_assoc]
    rw [← List.append_assoc, ← cells_append, ← hlen]
    exact List.take_left
 rcases hown.2 with ⟨rfl, rfl⟩ | ⟨g, cap, cur, rfl, hbg, hg, hnc, hcm, hcs, htake⟩
 · have hb : bs = [] := List.eq_nil_of_length_eq_zero (by rw [← length_cells, hl])
   subst hb
   have hr := Lib.run_append_grow_zeros (P := Tryz.prog) w 35 3 ty 5 i (.int .u8 0) .i64 .i64 Tryz.underlying35 Tryz.underlying3 hi hz none 0 0 (cells []) (by rw [hsz]; exact run_firstCells_none w.drew 1 0 0 0) k (by omega) (by omega) (by omega) (by omega) (by rw [hby]; omega) (growslice_fits (by omega) (by rw [hby]; omega))
   obtain ⟨g1, g2⟩ := grown 0 (Value.slice none 0 0).ownBlock (by omega)
   exact ⟨_, _, hr, g1, g2⟩
 · by_cases hroom : n + k ≤ cap
   · have hB : BlkV w g 5 cur.toList := by simpa [BlkV] using hg
     have hcl : cur.toList.length = cap := by rw [Array.length_toList, hcs]; omega
     have hz1 : ∀ v ∈ (List.replicate k (Value.int .u8 0)), v.oneCell' = true := by intro v hv; rw [(List.mem_replicate.1 hv).2]; rfl
     obtain ⟨s1, s2⟩ := set_cells g (List.replicate k (Value.int .u8 0)) n w cur.toList hB (by rw [List.length_replicate, hcl]; omega)
     have hst := run_storeCells_cells (P := Tryz.prog) g n (List.replicate k (Value.int .u8 0)) 0 w (fun j hj => by rw [List.length_replicate] at hj; rw [Nat.add_zero, hB.cell]; simp; omega) (fun j _ => hB.frozen _) hz1
     simp only [Nat.add_zero] at hst
     refine ⟨.slice (some ⟨g, 0, none⟩) (n + k) cap, w.setCells g n (List.replicate k (Value.int .u8 0)), ?_, ⟨hlen, .inr ⟨g, cap, _, rfl, hbg, s1, hroom, hcm, ?_, ?_⟩⟩, s2.grown⟩
     · have hw : IntKind.i64.wrap (k : Int) = (k : Int) := by rw [IntKind.wrap_i64]; omega
       have hb2 : ¬ ((281474976710656 : Int) < (k : Int)) := by omega
       have hk0 : ¬ k = 0 := by omega
       simp [Builtin.append_, run_underlying Tryz.underlying35, run_underlying Tryz.underlying3, sizeOf, typeInfo, zeroValue, hi, hz, hsz, hby, asInt, asIntOf, hw, hb2, hk0, hroom, Addr.add_lit, hzc, zero_cells, cells_replicate, hst]
       intro h; omega
     · simp [splice]; omega
     · rw [Nat.mul_one] at htake ⊢
       rw [cells_append, cells_replicate, ← htake]
       simp only [splice, List.length_replicate, UInt8.toNat_zero]
       rw [← List.append_assoc, List.take_left' (by simp only [List.length_append, List.length_take, List.length_replicate]; omega)]
       rfl
   · have holds : ∀ j u, (cells bs)[j]? = some u → w.cell? ((⟨g, 0, none⟩ : Addr).add j) = some u := hown.cells (g := g) rfl
     have hr := Lib.run_append_grow_zeros (P := Tryz.prog) w 35 3 ty 5 i (.int .u8 0) .i64 .i64 Tryz.underlying35 Tryz.underlying3 hi hz (some ⟨g, 0, none⟩) n cap (cells bs) (by rw [hsz]; exact run_firstCells_some w.drew 1 n ⟨g, 0, none⟩ n cap (cells bs) (by rw [hl, Nat.mul_one]) holds) k (by omega) (by omega) (by omega) (by omega) (by rw [hby]; omega) (growslice_fits (by omega) (by rw [hby]; omega))
     obtain ⟨g1, g2⟩ := grown cap (Value.slice (some ⟨g, 0, none⟩) n cap).ownBlock (by omega)
     exact ⟨_, _, hr, g1, g2⟩
theorem wpList_app_zeros {w : World} {ops : Array Oper} {rest : List Oper} {o : Oper} {a : Act} {Q : Exit → Act → World → Prop} (hgd : o.guard = none) (s x : Operand)
 (ho : o.op = .call { callee := .builtin .append, args := #[s, x], argTypes := #[35, 3] }) (w0 : World) (A : Option Addr) (n c k : Nat) (bs : List UInt8) (hs : a.eval s = .slice A n c) (hown : BO w0 w A n c bs) (hx : a.eval x = .int .i64 (k : Int)) (hk : 1 ≤ k) (hn : n ≤ 1000000) (hk2 : k ≤ 1000000)
 (h : ∀ A' c' w', BO w0 w' A' (n + k) c' (bs ++ List.replicate k 0) → w.grownBy w' (Value.slice A n c).ownBlock → wpList Tryz.prog ops Q rest (a.put o.dst (.slice A' (n + k) c')) w') : wpList Tryz.prog ops Q (o :: rest) a w := by
 refine wpList_plain hgd fun K hK => ?_
 obtain ⟨v', w', hr, h1, h2⟩ := run_app_zeros w w0.heap.size o.type (.slice A n c) n k bs hown.1 hk hn hk2 hown.2.size
 obtain ⟨A', c', rfl⟩ := own_formN h1
 unfold Oper.wp execOp
 simp only [ho, resolve, invoke, builtin, Sem.run_bind, Sem.run_pure, Result.andThen_ok, List.map_toArray, List.map_cons, List.map_nil, hs, hx, hr]
 exact hK _ _ (h A' c' w' (hown.more h1 h2) h2)
theorem own_cut0 {w : World} {base n c : Nat} {e : TypeId} {A : Option Addr} {xs : List Value} (h : w.ownsRow base e 1 (.slice A n c) n xs) : w.ownsRow base e 1 (.slice A 0 c) 0 [] := by
 refine ⟨by simp, ?_⟩
 rcases h.2 with ⟨hv, _⟩ | ⟨g, cap, cur, hv, hb, hg, hnc, hcm, hcs, _⟩
 · injection hv with h1 h2 h3
   subst h1; subst h3
   exact .inl ⟨rfl, rfl⟩
 · injection hv with h1 h2 h3
   subst h1; subst h3
   exact .inr ⟨g, _, cur, rfl, hb, hg, Nat.zero_le _, hcm, hcs, by simp⟩
theorem own_cap {w : World} {base n c : Nat} {e : TypeId} {A : Option Addr} {xs : List Value} (h : w.ownsRow base e 1 (.slice A n c) n xs) : n ≤ c ∧ c ≤ maxLen := by
 rcases h.2 with ⟨hv, h0⟩ | ⟨g, cap, cur, hv, hb, hg, hnc, hcm, _⟩
 · injection hv with h1 h2 h3
   subst h3; subst h0; exact ⟨Nat.le_refl _, by simp⟩
 · injection hv with h1 h2 h3
   subst h3; exact ⟨hnc, hcm⟩

set_option maxRecDepth 100000 in
set_option maxHeartbeats 400000 in
theorem grow_nil (n : Nat) (w : World) (hn : n ≤ 1000000) :
 Calls Tryz.prog 76 #[.slice none 0 0, .int .i64 (n : Int)] w fun e w' => ∃ A c, e = .returned (.slice A 0 c) ∧ BO w w' A 0 c [] := by
 by_cases h0 : 0 < n
 · go_enter Tryz.func76, Tryz.ntmps76
   go_wp2_with (at_builtin; refine wpList_app_zeros rfl (.tmp 20) (.tmp 21) rfl w none 0 0 n [] rfl (BO.nil w) rfl h0 (by omega) hn ?_; intro A1 c1 w1 hb1 hx1; have B1 := Lib.hid hb1; have hcap := (own_cap hb1.1).2; simp only [maxLen] at hcap; clear hb1 hx1)
   go_ret
   exact ⟨A1, c1, rfl, own_cut0 B1.out.1, B1.out.2⟩
 · have e0 : n = 0 := by omega
   subst e0
   go_enter Tryz.func76, Tryz.ntmps76
   go_wp2
   go_ret
   exact ⟨none, 0, rfl, BO.nil w⟩

theorem flat_take {ps : List (List UInt8)} {j : Nat} (h : j < ps.length) : (ps.take (j + 1)).flatten = (ps.take j).flatten ++ ps.getD j [] := by
 rw [List.take_add_one, List.getElem?_eq_getElem h, List.flatten_append]
 simp [List.getD, h]
theorem flat_take_le (ps : List (List UInt8)) (j : Nat) : (ps.take j).flatten.length ≤ ps.flatten.length := by
 conv => rhs; rw [← List.take_append_drop j ps]
 rw [List.flatten_append, List.length_append]; omega

set_option maxRecDepth 100000 in
set_option maxHeartbeats 1000000 in
theorem concat_any (A : Option Addr) (k c : Nat) (ps : List (List UInt8)) (w : World) (hp : PartsRd w A k ps) (hk : k ≤ 1000) (hle : ps.flatten.length ≤ 100000) :
 Calls Tryz.prog 53 #[.slice A k c] w fun e w' => ∃ A' c', e = .returned (.slice A' ps.flatten.length c') ∧ BO w w' A' ps.flatten.length c' ps.flatten := by
 have HP := Lib.hid hp
 have HK := Lib.hid hp.1
 have HLE := Lib.hid (fun j => Nat.le_trans (flat_take_le ps j) hle)
 clear hp
 go_enter Tryz.func53, Tryz.ntmps53
 go_wp2
 go_loopw [3, 11] (fun vs vi wx => ∃ j S : Nat, j ≤ k ∧ S ≤ 100000 ∧ vs = .int .i64 (S : Int) ∧ vi = .int .i64 (j : Int) ∧ Hid (S = (ps.take j).flatten.length) ∧ wx = w) (fun _ vi _ => k - (intOf vi).toNat)
 case atStart => exact ⟨0, 0, by omega, by omega, rfl, rfl, Lib.hid (by simp), rfl⟩
 case round =>
  obtain ⟨j, S, hj, hS, rfl, rfl, HS, rfl⟩ := hrel
  by_cases hjk : j < k
  · obtain ⟨b, off, rfl, hlt, hc⟩ := HP.out.2 (by omega)
    obtain ⟨Aj, nj, cj, q1, q2⟩ := hc j hjk
    have hS2 : Hid (S + nj = (ps.take (j + 1)).flatten.length) := Lib.hid (by
     rw [flat_take (by rw [HK.out]; exact hjk), List.length_append, ← HS.out, q2.len])
    have hS3 : S + nj ≤ 100000 := by rw [hS2.out]; exact HLE.out _
    clear hc q2
    go_wp2
    go_roundw
    case rel => exact ⟨j + 1, S + nj, by omega, hS3, by go_num, by go_num, hS2, by trivial⟩
    case measure => simp [intOf]; omega
  · obtain rfl : j = k := by omega
    have HS2 : Hid (S = ps.flatten.length) := Lib.hid (by rw [HS.out, ← HK.out, List.take_length])
    go_wp2_with (go_at_call 76; ((with_reducible refine (grow_nil S _ (by omega)).mono ?_); rintro e w1 ⟨A1, c1, rfl, hb1⟩; have B1 := Lib.hid hb1; clear hb1))
    go_loopw [6, 27] (fun v vi wx => ∃ (i M : Nat) (A' : Option Addr) (c' : Nat), i ≤ j ∧ M ≤ 100000 ∧ v = .slice A' M c' ∧ vi = .int .i64 (i : Int) ∧ Hid (BO wr wx A' M c' ((ps.take i).flatten))) (fun _ vi _ => j - (intOf vi).toNat)
    case atStart => exact ⟨0, 0, A1, c1, by omega, by omega, rfl, rfl, Lib.hid (by simpa using B1.out)⟩
    case round =>
     obtain ⟨i, M, A2, c2, hi, hM, rfl, rfl, HL⟩ := hrel
     by_cases hij : i < j
     · obtain ⟨b, off, rfl, hlt, hc⟩ := (HP.out.below HL.out.2).2 (by omega)
       obtain ⟨Aj, nj, cj, q1, q2⟩ := hc i hij
       have HV := Lib.hid (flat_take (ps := ps) (j := i) (by rw [HK.out]; exact hij))
       have Q2 := Lib.hid q2
       have hM2 : M + nj ≤ 100000 := by
        have h1 := HLE.out (i + 1)
        rw [HV.out, List.length_append, HL.out.len, q2.len] at h1
        exact h1
       clear hc q2
       go_wp2_with (at_builtin; refine wpList_append_rd _ rfl (.tmp 31) (.tmp 32) rfl Tryz.underlying35 u8_info _ (.slice A2 M c2) M ((ps.take i).flatten) rfl HL.out.1 Aj nj cj (ps.getD i []) rfl Q2.out (by omega) HL.out.2.size ?_; intro v3 w3 hown3 hg3 _; obtain ⟨A3, c3, hv3⟩ := own_formN hown3; subst hv3; have B3 := Lib.hid (HL.out.more hown3 hg3); clear hown3 hg3)
       go_roundw
       case rel => exact ⟨i + 1, M + nj, A3, c3, by omega, hM2, rfl, by go_num, Lib.hid (by rw [HV.out]; exact B3.out)⟩
       case measure => simp [intOf]; omega
     · obtain rfl : i = j := by omega
       rw [show ps.take i = ps by rw [← HK.out, List.take_length]] at HL
       have hm : M = ps.flatten.length := HL.out.len.symm
       subst hm
       go_wp2
       go_ret
       exact ⟨A2, c2, rfl, HL.out⟩
theorem parts2 (w : World) (A1 A2 : Option Addr) (n1 n2 c1 c2 : Nat) (p1 p2 : List UInt8) (e : TypeId) (h1 : RdS w A1 n1 c1 p1) (h2 : RdS w A2 n2 c2 p2) :
 PartsRd (w.alloc (.cells #[.slice A1 n1 c1, .slice A2 n2 c2] e)) (some ⟨w.heap.size, 0, none⟩) 2 [p1, p2] := by
 have hB : BlkV (w.alloc (.cells #[.slice A1 n1 c1, .slice A2 n2 c2] e)) w.heap.size e [.slice A1 n1 c1, .slice A2 n2 c2] := BlkV.new _ _ _
 have hb : Below w.heap.size w (w.alloc (.cells #[.slice A1 n1 c1, .slice A2 n2 c2] e)) := (Below.refl _ _).alloc (Nat.le_refl _) _
 refine ⟨rfl, fun _ => ⟨w.heap.size, 0, rfl, hB.lt, fun j hj => ?_⟩⟩
 match j, hj with
 | 0, _ => exact ⟨A1, n1, c1, (hB.cell 0).trans rfl, h1.below hb⟩
 | 1, _ => exact ⟨A2, n2, c2, (hB.cell 1).trans rfl, h2.below hb⟩
end Go.Proofs.YtmkeioeodlidgaaGreatDoor
