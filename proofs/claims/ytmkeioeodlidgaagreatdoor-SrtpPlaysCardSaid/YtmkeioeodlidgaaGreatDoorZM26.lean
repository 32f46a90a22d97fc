/- Several texts in one: plain words and walks. No statement is proved here. -/
import Derived.Test.YtmkeioeodlidgaaGreatDoorZM23
import Derived.Test.YtmkeioeodlidgaaGreatDoorZM4
import Derived.Deep.DeepCutAuto
namespace Go.Proofs.YtmkeioeodlidgaaGreatDoor
open Go.RowKit
set_option linter.unusedVariables false

theorem own_loW {w : World} {base base' n : Nat} {e : TypeId} {v : Value} {xs : List Value} (h : w.ownsRow base e 1 v n xs) (hb : base' ≤ base) : w.ownsRow base' e 1 v n xs :=
 ⟨h.1, h.2.imp id fun ⟨g, cap, cur, hv, hg, r⟩ => ⟨g, cap, cur, hv, Nat.le_trans hb hg, r⟩⟩
theorem rputW (w0 W : World) (A : Option Addr) (nb c : Nat) (bs : List UInt8) (m x : Nat) (mi : Int) (N : Nat) (hmi : mi = m) (hN : N = nb + m) (hb : Below w0.heap.size w0 W) (hr : RdS W A nb c bs) (h1 : 1 ≤ m) (h2 : m ≤ 8) (hx : x < 18446744073709551616) (hs : nb ≤ 1000000) :
 Calls Tryz.prog 42 #[.slice A nb c, .int .i64 mi, .int .u64 (x : Int)] W fun e w' => ∃ A' c', e = .returned (.slice A' N c') ∧ w'.ownsRow w0.heap.size 5 1 (.slice A' N c') N (cells (bs ++ beb m x)) ∧ Below w0.heap.size w0 w' := by
 subst hmi; subst hN
 refine (rput_some A nb c bs m x W hr h1 h2 hx (by omega)).mono fun e w' h => ?_
 obtain ⟨v, he, ho, hb2⟩ := h
 obtain ⟨A', c', hv⟩ := own_form ho
 subst hv
 have hl : (bs ++ beb m x).length = nb + m := by rw [List.length_append, length_beb, hr.len]
 rw [hl] at he ho
 exact ⟨A', c', he, own_mono ho hb.size, hb.trans (hb2.mono hb.size)⟩

theorem rd_one (w : World) (n : Nat) (h : n < 256) : RdS (w.alloc (.cells #[.int .u8 (n : Int)] 5)) (some ⟨w.heap.size, 0, none⟩) 1 1 [UInt8.ofNat n] := by
 have e : (#[.int .u8 (n : Int)] : Array Value) = (cells [UInt8.ofNat n]).toArray := by
  simp only [cells, List.map_cons, List.map_nil, UInt8.toNat_ofNat']
  rw [Nat.mod_eq_of_lt (by omega)]
 rw [e]
 exact (Blk.new w 5 [UInt8.ofNat n]).rd rfl (Nat.le_refl _) (by simp [maxLen])
theorem two_own (W : World) (b F G : Nat) (hF : F < 256) (hG : G < 256) (hb : b ≤ W.heap.size) : (W.alloc (.cells #[.int .u8 (F : Int), .int .u8 (G : Int)] 5)).ownsRow b 5 1 (.slice (some ⟨W.heap.size, 0, none⟩) 2 2) 2 (cells (beb 1 F ++ beb 1 G)) := by
 have e : cells (beb 1 F ++ beb 1 G) = [.int .u8 (F : Int), .int .u8 (G : Int)] := by
  rw [beb_one, beb_one]
  simp only [cells, List.singleton_append, List.map_cons, List.map_nil, UInt8.toNat_ofNat']
  rw [Nat.mod_eq_of_lt (by omega), Nat.mod_eq_of_lt (by omega)]
 rw [e]
 exact World.ownsRow_lit W #[.int .u8 (F : Int), .int .u8 (G : Int)] 2 hb (by simp [maxLen]) rfl

set_option maxRecDepth 100000 in
set_option maxHeartbeats 4000000 in
theorem rwrite_x (cs : List Value) (p : Pkt) (w : World) (h : PkRd w cs p) (hx : p.x = true) (m1 : p.ty ≤ 127) (m2 : p.ot.length ≤ 15) (m4 : p.xt.length % 4 = 0) (m5 : p.xt.length ≤ 1020) (hf : fits p) (mp : p.pl.length ≤ 10000) :
 Calls Tryz.prog 27 #[.agg cs.toArray] w fun e w' => (((wrB p).length ≤ 1200 ∧ ∃ A c, e = .returned (.tuple #[.slice A (wrB p).length c, .bool true]) ∧ w'.ownsRow w.heap.size 5 1 (.slice A (wrB p).length c) (wrB p).length (cells (wrB p))) ∨ (1200 < (wrB p).length ∧ e = .returned (.tuple #[.slice none 0 0, .bool false]))) ∧ Below w.heap.size w w' := by
 have HW : Hid (Below w.heap.size w (w.alloc (.cells cs.toArray 37))) := Lib.hid ((Below.refl _ _).alloc (Nat.le_refl _) _)
 have HB := Lib.hid (BlkV.new w 37 cs)
 obtain ⟨A1, ca, B1, cb, D1, cd, e1, u1, x1, y1⟩ := h.below HW.out
 obtain ⟨w0, hw0⟩ : ∃ w0, w0 = w.alloc (.cells cs.toArray 37) := ⟨_, rfl⟩
 rw [← hw0] at u1 x1 y1
 have CR : Hid (∀ W, Below w0.heap.size w0 W → ∀ j, W.cell? ⟨w.heap.size, j, none⟩ = (rtpC p.m p.ty p.sq p.st p.so (.slice A1 p.ot.length ca) true p.pf (.slice B1 p.xt.length cb) (.slice D1 p.pl.length cd) p.pd)[j]?) := Lib.hid fun W hb j => by
  rw [← hx, ← e1]
  subst hw0
  exact (HB.out.below hb HB.out.lt).cell j
 have HU := Lib.hid u1
 have HX := Lib.hid x1
 have HY := Lib.hid y1
 obtain ⟨f1, f2, f3, f4, f5, f6⟩ := hf
 have g0 : Below w0.heap.size w0 (w.alloc (.cells cs.toArray 37)) := by rw [← hw0]; exact Below.refl _ _
 have HW0 := Lib.hid hw0
 obtain ⟨F, hF⟩ : ∃ F, F = firstN p := ⟨_, rfl⟩
 obtain ⟨G, hG⟩ : ∃ G, G = secondN p := ⟨_, rfl⟩
 have hF2 : F = 128 + (if 0 < p.pd then 32 else 0) + 16 + p.ot.length := by rw [hF]; unfold firstN; rw [hx]; rfl
 have hG2 : G = (if p.m = true then 128 else 0) + p.ty := hG
 have lF : F < 256 := by rw [hF2]; split <;> omega
 have lG : G < 256 := by rw [hG2]; split <;> omega
 have HF_ := Lib.hid hF
 have HG_ := Lib.hid hG
 have HF2 := Lib.hid hF2
 have HG2 := Lib.hid hG2
 have HX_ := Lib.hid hx
 have c0 : (w.alloc (.cells cs.toArray 37)).cell? ⟨w.heap.size, 0, none⟩ = some (.bool p.m) := (CR.out _ g0 0).trans rfl
 have c1 : (w.alloc (.cells cs.toArray 37)).cell? ⟨w.heap.size, 1, none⟩ = some (.int .u8 (p.ty : Int)) := (CR.out _ g0 1).trans rfl
 have c5 : (w.alloc (.cells cs.toArray 37)).cell? ⟨w.heap.size, 5, none⟩ = some (.slice A1 p.ot.length ca) := (CR.out _ g0 5).trans rfl
 have c6 : (w.alloc (.cells cs.toArray 37)).cell? ⟨w.heap.size, 6, none⟩ = some (.bool true) := (CR.out _ g0 6).trans rfl
 have c7 : (w.alloc (.cells cs.toArray 37)).cell? ⟨w.heap.size, 7, none⟩ = some (.int .u16 (p.pf : Int)) := (CR.out _ g0 7).trans rfl
 have c8 : (w.alloc (.cells cs.toArray 37)).cell? ⟨w.heap.size, 8, none⟩ = some (.slice B1 p.xt.length cb) := (CR.out _ g0 8).trans rfl
 have c10 : (w.alloc (.cells cs.toArray 37)).cell? ⟨w.heap.size, 10, none⟩ = some (.int .u8 (p.pd : Int)) := (CR.out _ g0 10).trans rfl
 clear u1 x1 y1 e1 h g0 hF hG hF2 hG2 hw0
 have qm : ((p.xt.length : Int) % 4 != 0) = false := by simp; omega
 have e9 : IntKind.i64.wrap (128 + (p.ot.length : Int)) = ((128 + p.ot.length : Nat) : Int) := by rw [IntKind.wrap_i64]; omega
 have e10 : IntKind.u8.wrap ((128 + p.ot.length : Nat) : Int) = ((128 + p.ot.length : Nat) : Int) := by rw [IntKind.wrap_u8]; omega
 have e8 : IntKind.u8.wrap (IntKind.i64.wrap (128 + (p.ot.length : Int))) = ((128 + p.ot.length : Nat) : Int) := by rw [e9]; exact e10
 obtain ⟨a1, ha1⟩ : ∃ a1, a1 = 128 + p.ot.length := ⟨_, rfl⟩
 rw [← ha1] at e8 e9 e10
 have HA1 := Lib.hid ha1
 have la1 : a1 ≤ 143 := by omega
 clear ha1
 go_enter Tryz.func27, Tryz.ntmps27
 go_wp2
 go_quiet (fail)
 have b1 : Hid (Below w0.heap.size w0 ((w.alloc (.cells cs.toArray 37)).drewN nq)) := Lib.hid (by rw [HW0.out]; exact ⟨rfl, rfl, rfl, Nat.le_refl _, fun _ _ => rfl⟩)
 clear c0 c1 c5 c6 c7 c8 c10 e8 e9 e10
 generalize (w.alloc (.cells cs.toArray 37)).drewN nq = w1 at b1 ⊢
 have c0 : w1.cell? ⟨w.heap.size, 0, none⟩ = some (.bool p.m) := (CR.out _ b1.out 0).trans rfl
 have c6 : w1.cell? ⟨w.heap.size, 6, none⟩ = some (.bool true) := (CR.out _ b1.out 6).trans rfl
 have c10 : w1.cell? ⟨w.heap.size, 10, none⟩ = some (.int .u8 (p.pd : Int)) := (CR.out _ b1.out 10).trans rfl
 go_upto_if 56 with (fail)
 go_cut [4] (fun v wx => v = .int .u8 ((a1 + (if 0 < p.pd then 32 else 0) : Nat) : Int) ∧ wx = w1)
 case first =>
  by_cases hp : 0 < p.pd
  · go_wp2_with (fail)
    go_meet
    exact ⟨by rw [if_pos hp]; rfl, rfl⟩
  · go_wp2_with (fail)
    go_meet
    exact ⟨by rw [if_neg hp]; rfl, rfl⟩
 case rest =>
  obtain ⟨rfl, hwc⟩ := hcut
  rw [hwc]
  clear hwc
  obtain ⟨a2, ha2⟩ : ∃ a2, a2 = a1 + (if 0 < p.pd then 32 else 0) := ⟨_, rfl⟩
  rw [← ha2]
  have la2 : a2 ≤ 175 := by rw [ha2]; split <;> omega
  have hFe : ((a2 : Int) + 16) = (F : Int) := by have h1 := HF2.out; have h2 := HA1.out; omega
  clear ha2
  go_upto_if 64 with (fail)
  go_cut [5] (fun v wx => v = .int .u8 (G : Int) ∧ wx = w1)
  case first =>
   have hm : p.m = true ∨ p.m = false := by cases p.m <;> simp
   rcases hm with hm | hm
   · rw [hm] at c0 ⊢
     have hGe : ((p.ty : Int) + 128) = (G : Int) := by have h1 := HG2.out; rw [if_pos hm] at h1; omega
     go_wp2_with (fail)
     go_meet
     exact ⟨by rw [← hGe], rfl⟩
   · rw [hm] at c0 ⊢
     have hGe : p.ty = G := by have h1 := HG2.out; rw [hm] at h1; simpa using h1.symm
     go_wp2_with (fail)
     go_meet
     exact ⟨by rw [← hGe], rfl⟩
  case rest =>
   obtain ⟨rfl, hwc⟩ := hcut
   rw [hwc]
   clear hwc
   have ba : Below w0.heap.size w0 (w1.alloc (.cells #[.int .u8 (F : Int), .int .u8 (G : Int)] 5)) := b1.out.alloc b1.out.size _
   have oa := Lib.hid (two_own w1 w0.heap.size F G lF lG b1.out.size)
   have c2 : (w1.alloc (.cells #[.int .u8 (F : Int), .int .u8 (G : Int)] 5)).cell? ⟨w.heap.size, 2, none⟩ = some (.int .u16 (p.sq : Int)) := (CR.out _ ba 2).trans rfl
   have BA := Lib.hid ba
   clear ba c0 c6 c10
   go_wp2_with (first
    | (go_at_call 42; ((with_reducible refine (rputW w0 _ (some ⟨w1.heap.size, 0, none⟩) 2 2 (beb 1 F ++ beb 1 G) 2 p.sq _ 4 (by omega) (by omega) BA.out (RdS.of_own oa.out) (by omega) (by omega) (by omega) (by omega)).mono ?_); rintro e w4 ⟨A4, q4, rfl, hk, hb⟩; have o4 := Lib.hid hk; have b4 := Lib.hid hb; have c3 : w4.cell? ⟨w.heap.size, 3, none⟩ = some (.int .u32 (p.st : Int)) := (CR.out _ hb 3).trans rfl; clear hk hb))
    | (go_at_call 42; ((with_reducible refine (rputW w0 _ A4 4 q4 ((beb 1 F ++ beb 1 G) ++ beb 2 p.sq) 4 p.st _ 8 (by omega) (by omega) b4.out (RdS.of_own o4.out) (by omega) (by omega) (by omega) (by omega)).mono ?_); rintro e w5 ⟨A5, q5, rfl, hk, hb⟩; have o5 := Lib.hid hk; have b5 := Lib.hid hb; have c4 : w5.cell? ⟨w.heap.size, 4, none⟩ = some (.int .u32 (p.so : Int)) := (CR.out _ hb 4).trans rfl; clear hk hb))
    | (go_at_call 42; ((with_reducible refine (rputW w0 _ A5 8 q5 (((beb 1 F ++ beb 1 G) ++ beb 2 p.sq) ++ beb 4 p.st) 4 p.so _ 12 (by omega) (by omega) b5.out (RdS.of_own o5.out) (by omega) (by omega) (by omega) (by omega)).mono ?_); rintro e w6 ⟨A6, q6, rfl, hk, hb⟩; have o6 := Lib.hid hk; have b6 := Lib.hid hb; have c5 : w6.cell? ⟨w.heap.size, 5, none⟩ = some (.slice A1 p.ot.length ca) := (CR.out _ hb 5).trans rfl; clear hk hb)))
   obtain ⟨H, hHe⟩ : ∃ H, H = (((beb 1 F ++ beb 1 G) ++ beb 2 p.sq) ++ beb 4 p.st) ++ beb 4 p.so := ⟨_, rfl⟩
   have lH : Hid (H.length = 12) := Lib.hid (by rw [hHe]; simp only [List.length_append, length_beb])
   have hHp : Hid (H = hdB p) := Lib.hid (by rw [hHe, HF_.out, HG_.out, beb_one, beb_one]; simp [hdB])
   rw [← hHe] at o6
   clear hHe o4 o5 oa BA b4 b5 c2 c3 c4
   have HL0 := Lib.hid (otB_len p.ot)
   have c5 : w6.cell? ⟨w.heap.size, 5, none⟩ = some (.slice A1 p.ot.length ca) := (CR.out _ b6.out 5).trans rfl
   go_loopw [6, 7] (fun b i wr => ∃ (k : Nat) (A : Option Addr) (c : Nat), k ≤ p.ot.length ∧ i = .int .i64 k ∧ b = .slice A (12 + 4 * k) c ∧ Hid (wr.ownsRow w0.heap.size 5 1 (.slice A (12 + 4 * k) c) (12 + 4 * k) (cells (H ++ otB (p.ot.take k))) ∧ Below w0.heap.size w0 wr)) (fun _ i _ => p.ot.length - (intOf i).toNat)
   case atStart => exact ⟨0, A6, q6, by omega, rfl, rfl, Lib.hid ⟨by rw [show H ++ otB (p.ot.take 0) = H by simp [otB]]; exact o6.out, b6.out⟩⟩
   case round =>
    obtain ⟨k, A, c, hk, rfl, rfl, HL⟩ := hrel
    have c5 : wr.cell? ⟨w.heap.size, 5, none⟩ = some (.slice A1 p.ot.length ca) := (CR.out _ HL.out.2 5).trans rfl
    by_cases hkn : k < p.ot.length
    · obtain ⟨bU, oU, rfl, hlt, hcU⟩ := HU.out.2.2 (by omega)
      have hcell : wr.cell? ⟨bU, oU + k, none⟩ = some (.int .u32 ((p.ot.getD k 0 : Nat) : Int)) := (HL.out.2.cell (p := ⟨bU, oU + k, none⟩) hlt).trans (hcU k hkn)
      have hxl : p.ot.getD k 0 < 4294967296 := by
       have hm : p.ot.getD k 0 = p.ot[k] := by simp [List.getD, hkn]
       rw [hm]; exact f4 _ (List.getElem_mem hkn)
      have hnew : Hid ((H ++ otB (p.ot.take k)) ++ beb 4 (p.ot.getD k 0) = H ++ otB (p.ot.take (k + 1))) := Lib.hid (by rw [take_snocU hkn, otB_snoc, List.append_assoc])
      obtain ⟨xx, hxx⟩ : ∃ xx, xx = p.ot.getD k 0 := ⟨_, rfl⟩
      rw [← hxx] at hcell hxl hnew
      clear hxx hcU
      go_wp2_with (go_at_call 42; ((with_reducible refine (rputW w0 _ A (12 + 4 * k) c (H ++ otB (p.ot.take k)) 4 xx _ (12 + 4 * (k + 1)) (by omega) (by omega) HL.out.2 (RdS.of_own HL.out.1) (by omega) (by omega) (by omega) (by omega)).mono ?_); rintro e w7 ⟨A7, q7, rfl, hk7, hb7⟩; have h7 := Lib.hid (show w7.ownsRow w0.heap.size 5 1 (.slice A7 (12 + 4 * (k + 1)) q7) (12 + 4 * (k + 1)) (cells (H ++ otB (p.ot.take (k + 1)))) ∧ Below w0.heap.size w0 w7 from ⟨hnew.out ▸ hk7, hb7⟩); clear hk7 hb7))
      go_roundw
      case rel => exact ⟨k + 1, A7, q7, by omega, by go_num, rfl, h7⟩
      case measure => simp [intOf]; omega
    · have hke : k = p.ot.length := by omega
      subst hke
      rw [List.take_length] at HL
      have o8 := Lib.hid HL.out.1
      have b8 := Lib.hid HL.out.2
      clear HL
      obtain ⟨N, hN⟩ : ∃ N, N = 12 + 4 * p.ot.length := ⟨_, rfl⟩
      obtain ⟨T, hT⟩ : ∃ T, T = H ++ otB p.ot := ⟨_, rfl⟩
      have lT : Hid (T.length = N) := Lib.hid (by rw [hT, hN, List.length_append, lH.out, HL0.out])
      have hTp : Hid (T = hdB p ++ otB p.ot) := Lib.hid (by rw [hT, hHp.out])
      have lN : N ≤ 72 := by omega
      rw [← hT, ← hN] at o8
      rw [← hN]
      clear hT hN
      have c6 : wr.cell? ⟨w.heap.size, 6, none⟩ = some (.bool true) := (CR.out _ b8.out 6).trans rfl
      have c7 : wr.cell? ⟨w.heap.size, 7, none⟩ = some (.int .u16 (p.pf : Int)) := (CR.out _ b8.out 7).trans rfl
      have c9 : wr.cell? ⟨w.heap.size, 9, none⟩ = some (.slice D1 p.pl.length cd) := (CR.out _ b8.out 9).trans rfl
      obtain ⟨M4, hM4⟩ : ∃ M4, M4 = p.xt.length / 4 := ⟨_, rfl⟩
      have q4 : ((p.xt.length : Int) / 4) = (M4 : Int) := by omega
      have q5 : ((p.xt.length : Int).tdiv 4) = (M4 : Int) := by rw [Int.tdiv_eq_ediv_of_nonneg (by omega)]; omega
      have lM4 : M4 ≤ 255 := by omega
      have HM4 := Lib.hid hM4
      clear hM4
      go_wp2_with (first
       | (go_at_call 42; ((with_reducible refine (rputW w0 _ A N c (T) 2 p.pf _ (N + 2) (by omega) (by omega) b8.out (RdS.of_own o8.out) (by omega) (by omega) (by omega) (by omega)).mono ?_); rintro e w10 ⟨A10, q10, rfl, hk, hb⟩; have o10 := Lib.hid hk; have b10 := Lib.hid hb; have c8 : w10.cell? ⟨w.heap.size, 8, none⟩ = some (.slice B1 p.xt.length cb) := (CR.out _ hb 8).trans rfl; clear hk hb))
       | (go_at_call 42; ((with_reducible refine (rputW w0 _ A10 (N + 2) q10 (T ++ beb 2 p.pf) 2 M4 _ (N + 2 + 2) (by omega) (by omega) b10.out (RdS.of_own o10.out) (by omega) (by omega) (by omega) (by omega)).mono ?_); rintro e w11 ⟨A11, q11, rfl, hk, hb⟩; have o11 := Lib.hid hk; have b11 := Lib.hid hb; have c8 : w11.cell? ⟨w.heap.size, 8, none⟩ = some (.slice B1 p.xt.length cb) := (CR.out _ hb 8).trans rfl; clear hk hb))
       | (at_builtin; refine wpList_append_rd _ rfl (.tmp 114) (.tmp 116) rfl Tryz.underlying35 u8_info w0.heap.size (.slice A11 (N + 2 + 2) q11) (N + 2 + 2) ((T ++ beb 2 p.pf) ++ beb 2 M4) rfl o11.out B1 p.xt.length cb (p.xt) rfl (HX.out.below b11.out) (by omega) b11.out.size ?_; intro v12 w12 hown hg hat; obtain ⟨A12, q12, hv⟩ := own_form hown; subst hv; have b12 : Hid (Below w0.heap.size w0 w12) := Lib.hid (b11.out.grown hg b11.out.size (fun q hq => ((o11.out).lt q hq).1)); have o12 := Lib.hid hown; have c9 : w12.cell? ⟨w.heap.size, 9, none⟩ = some (.slice D1 p.pl.length cd) := (CR.out _ b12.out 9).trans rfl; clear hown hg hat)
       | (at_builtin; refine wpList_append_rd _ rfl (.tmp 118) (.tmp 120) rfl Tryz.underlying35 u8_info w0.heap.size (.slice A12 (N + 2 + 2 + p.xt.length) q12) (N + 2 + 2 + p.xt.length) (((T ++ beb 2 p.pf) ++ beb 2 M4) ++ p.xt) rfl o12.out D1 p.pl.length cd (p.pl) rfl (HY.out.below b12.out) (by omega) b12.out.size ?_; intro v20 w20 hown hg hat; obtain ⟨A20, q20, hv⟩ := own_form hown; subst hv; have b20 : Hid (Below w0.heap.size w0 w20) := Lib.hid (b12.out.grown hg b12.out.size (fun q hq => ((o12.out).lt q hq).1)); have o20 := Lib.hid hown; have c10 : w20.cell? ⟨w.heap.size, 10, none⟩ = some (.int .u8 (p.pd : Int)) := (CR.out _ b20.out 10).trans rfl; clear hown hg hat)
       | fail)
      obtain ⟨N2, hN2⟩ : ∃ N2, N2 = N + 2 + 2 + p.xt.length + p.pl.length := ⟨_, rfl⟩
      obtain ⟨T2, hT2⟩ : ∃ T2, T2 = (((T ++ beb 2 p.pf) ++ beb 2 M4) ++ p.xt) ++ p.pl := ⟨_, rfl⟩
      have hfin : Hid (T2 ++ padB p.pd = wrB p) := Lib.hid (by rw [hT2, hTp.out, HM4.out]; simp [wrB, exBt, HX_.out])
      have lN2 : N2 ≤ 20000 := by omega
      rw [← hN2, ← hT2] at o20
      rw [← hN2]
      have HN2 := Lib.hid hN2
      clear hT2 hN2
      have c10 : w20.cell? ⟨w.heap.size, 10, none⟩ = some (.int .u8 (p.pd : Int)) := (CR.out _ b20.out 10).trans rfl
      go_loopw [6, 8] (fun b i wr => ∃ (j : Nat) (A : Option Addr) (c : Nat), (j = 0 ∨ j + 1 ≤ p.pd) ∧ i = .int .i64 ((j : Int) + 1) ∧ b = .slice A (N2 + j) c ∧ Hid (wr.ownsRow w0.heap.size 5 1 (.slice A (N2 + j) c) (N2 + j) (cells (T2 ++ List.replicate j 0)) ∧ Below w0.heap.size w0 wr)) (fun _ i _ => p.pd - (intOf i).toNat)
      case atStart => exact ⟨0, A20, q20, .inl rfl, by simp, rfl, Lib.hid ⟨by rw [List.replicate_zero, List.append_nil]; exact o20.out, b20.out⟩⟩
      case round =>
       obtain ⟨j, A, c, hj, rfl, rfl, HL⟩ := hrel
       have c10 : wr.cell? ⟨w.heap.size, 10, none⟩ = some (.int .u8 (p.pd : Int)) := (CR.out _ HL.out.2 10).trans rfl
       by_cases hjn : j + 1 < p.pd
       · go_wp2_with (at_builtin; refine wpList_append_rd _ rfl (.tmp 129) (.tmp 130) rfl Tryz.underlying35 u8_info w0.heap.size (.slice A (N2 + j) c) (N2 + j) (T2 ++ List.replicate j 0) rfl (HL.out.1.alloc _) (some ⟨wr.heap.size, 0, none⟩) 1 1 [0] rfl (rd_zero wr) (by omega) (by have := HL.out.2.size; simp; omega) ?_; intro v30 w30 hown hg hat; obtain ⟨A30, q30, hv⟩ := own_form hown; subst hv; have h30 := Lib.hid (show w30.ownsRow w0.heap.size 5 1 (.slice A30 (N2 + (j + 1)) q30) (N2 + (j + 1)) (cells (T2 ++ List.replicate (j + 1) 0)) ∧ Below w0.heap.size w0 w30 from ⟨by rw [List.replicate_succ', ← List.append_assoc]; exact hown, (HL.out.2.alloc HL.out.2.size _).grown hg (by have := HL.out.2.size; simp; omega) (fun q hq => (HL.out.1.lt q hq).1)⟩); clear hown hg hat)
         go_roundw
         case rel => exact ⟨j + 1, A30, q30, .inr (by omega), by go_num, rfl, h30⟩
         case measure => simp [intOf]; omega
       · by_cases hp0 : p.pd = 0
         · have hj0 : j = 0 := by omega
           subst hj0
           have hfe : T2 ++ List.replicate 0 0 = wrB p := by rw [← hfin.out, hp0]; rfl
           have hr := Lib.hid (RdS.of_own HL.out.1)
           have hn := Lib.hid (show (wrB p).length = N2 + 0 by have := hr.out.len; rw [hfe] at this; exact this)
           by_cases htot : N2 + 0 ≤ 1200
           · go_wp2
             go_ret2
             refine ⟨.inl ⟨by rw [hn.out]; exact htot, A, c, by rw [hn.out]; rfl, by rw [hn.out, ← hfe]; exact own_loW HL.out.1 (by rw [HW0.out]; simp)⟩, ?_⟩
             exact HW.out.trans (by rw [← HW0.out]; exact HL.out.2.mono (by rw [HW0.out]; simp))
           · go_wp2
             go_ret2
             refine ⟨.inr ⟨by rw [hn.out]; omega, rfl⟩, ?_⟩
             exact HW.out.trans (by rw [← HW0.out]; exact HL.out.2.mono (by rw [HW0.out]; simp))
         · have hjp : j + 1 = p.pd := by omega
           have hfe : Hid ((T2 ++ List.replicate j 0) ++ [UInt8.ofNat p.pd] = wrB p) := Lib.hid (by
            rw [← hfin.out, ← hjp]
            unfold padB
            rw [if_neg (by omega), Nat.add_sub_cancel, List.append_assoc])
           have hpp : 0 < p.pd := by omega
           have hlw : Hid ((wrB p).length = N2 + j + 1) := Lib.hid (by
            have := HL.out.1.1
            rw [← hfe.out, List.length_append, List.length_singleton]
            rw [length_cells] at this
            omega)
           by_cases htot : N2 + j + 1 ≤ 1200
           · go_wp2_with (at_builtin; refine wpList_append_rd _ rfl (.tmp 135) (.tmp 138) rfl Tryz.underlying35 u8_info w0.heap.size (.slice A (N2 + j) c) (N2 + j) (T2 ++ List.replicate j 0) rfl (HL.out.1.alloc _) (some ⟨wr.heap.size, 0, none⟩) 1 1 [UInt8.ofNat p.pd] rfl (rd_one wr p.pd f6) (by omega) (by have := HL.out.2.size; simp; omega) ?_; intro v40 w40 hown hg hat; obtain ⟨A40, q40, hv⟩ := own_form hown; subst hv; have o40 := Lib.hid hown; have b40 := Lib.hid ((HL.out.2.alloc HL.out.2.size (.cells #[.int .u8 (p.pd : Int)] 5)).grown hg (by have := HL.out.2.size; simp; omega) (fun q hq => (HL.out.1.lt q hq).1)); clear hown hg hat)
             go_ret2
             refine ⟨.inl ⟨by rw [hlw.out]; exact htot, A40, q40, by rw [hlw.out]; rfl, by rw [hlw.out, ← hfe.out]; exact own_loW o40.out (by rw [HW0.out]; simp)⟩, ?_⟩
             exact HW.out.trans (by rw [← HW0.out]; exact b40.out.mono (by rw [HW0.out]; simp))
           · go_wp2_with (at_builtin; refine wpList_append_rd _ rfl (.tmp 135) (.tmp 138) rfl Tryz.underlying35 u8_info w0.heap.size (.slice A (N2 + j) c) (N2 + j) (T2 ++ List.replicate j 0) rfl (HL.out.1.alloc _) (some ⟨wr.heap.size, 0, none⟩) 1 1 [UInt8.ofNat p.pd] rfl (rd_one wr p.pd f6) (by omega) (by have := HL.out.2.size; simp; omega) ?_; intro v40 w40 hown hg hat; obtain ⟨A40, q40, hv⟩ := own_form hown; subst hv; have o40 := Lib.hid hown; have b40 := Lib.hid ((HL.out.2.alloc HL.out.2.size (.cells #[.int .u8 (p.pd : Int)] 5)).grown hg (by have := HL.out.2.size; simp; omega) (fun q hq => (HL.out.1.lt q hq).1)); clear hown hg hat)
             go_ret2
             refine ⟨.inr ⟨by rw [hlw.out]; omega, rfl⟩, ?_⟩
             exact HW.out.trans (by rw [← HW0.out]; exact b40.out.mono (by rw [HW0.out]; simp))

set_option maxRecDepth 100000 in
set_option maxHeartbeats 4000000 in
theorem rwrite_n (cs : List Value) (p : Pkt) (w : World) (h : PkRd w cs p) (hx : p.x = false) (m1 : p.ty ≤ 127) (m2 : p.ot.length ≤ 15) (m3 : p.xt.length = 0) (m3b : p.pf = 0) (hf : fits p) (mp : p.pl.length ≤ 10000) :
 Calls Tryz.prog 27 #[.agg cs.toArray] w fun e w' => (((wrB p).length ≤ 1200 ∧ ∃ A c, e = .returned (.tuple #[.slice A (wrB p).length c, .bool true]) ∧ w'.ownsRow w.heap.size 5 1 (.slice A (wrB p).length c) (wrB p).length (cells (wrB p))) ∨ (1200 < (wrB p).length ∧ e = .returned (.tuple #[.slice none 0 0, .bool false]))) ∧ Below w.heap.size w w' := by
 have HW : Hid (Below w.heap.size w (w.alloc (.cells cs.toArray 37))) := Lib.hid ((Below.refl _ _).alloc (Nat.le_refl _) _)
 have HB := Lib.hid (BlkV.new w 37 cs)
 obtain ⟨A1, ca, B1, cb, D1, cd, e1, u1, x1, y1⟩ := h.below HW.out
 obtain ⟨w0, hw0⟩ : ∃ w0, w0 = w.alloc (.cells cs.toArray 37) := ⟨_, rfl⟩
 rw [← hw0] at u1 x1 y1
 have CR : Hid (∀ W, Below w0.heap.size w0 W → ∀ j, W.cell? ⟨w.heap.size, j, none⟩ = (rtpC p.m p.ty p.sq p.st p.so (.slice A1 p.ot.length ca) false p.pf (.slice B1 p.xt.length cb) (.slice D1 p.pl.length cd) p.pd)[j]?) := Lib.hid fun W hb j => by
  rw [← hx, ← e1]
  subst hw0
  exact (HB.out.below hb HB.out.lt).cell j
 have HU := Lib.hid u1
 have HX := Lib.hid x1
 have HY := Lib.hid y1
 obtain ⟨f1, f2, f3, f4, f5, f6⟩ := hf
 have g0 : Below w0.heap.size w0 (w.alloc (.cells cs.toArray 37)) := by rw [← hw0]; exact Below.refl _ _
 have HW0 := Lib.hid hw0
 obtain ⟨F, hF⟩ : ∃ F, F = firstN p := ⟨_, rfl⟩
 obtain ⟨G, hG⟩ : ∃ G, G = secondN p := ⟨_, rfl⟩
 have hF2 : F = 128 + (if 0 < p.pd then 32 else 0) + 0 + p.ot.length := by rw [hF]; unfold firstN; rw [hx]; rfl
 have hG2 : G = (if p.m = true then 128 else 0) + p.ty := hG
 have lF : F < 256 := by rw [hF2]; split <;> omega
 have lG : G < 256 := by rw [hG2]; split <;> omega
 have HF_ := Lib.hid hF
 have HG_ := Lib.hid hG
 have HF2 := Lib.hid hF2
 have HG2 := Lib.hid hG2
 have HX_ := Lib.hid hx
 have c0 : (w.alloc (.cells cs.toArray 37)).cell? ⟨w.heap.size, 0, none⟩ = some (.bool p.m) := (CR.out _ g0 0).trans rfl
 have c1 : (w.alloc (.cells cs.toArray 37)).cell? ⟨w.heap.size, 1, none⟩ = some (.int .u8 (p.ty : Int)) := (CR.out _ g0 1).trans rfl
 have c5 : (w.alloc (.cells cs.toArray 37)).cell? ⟨w.heap.size, 5, none⟩ = some (.slice A1 p.ot.length ca) := (CR.out _ g0 5).trans rfl
 have c6 : (w.alloc (.cells cs.toArray 37)).cell? ⟨w.heap.size, 6, none⟩ = some (.bool false) := (CR.out _ g0 6).trans rfl
 have c7 : (w.alloc (.cells cs.toArray 37)).cell? ⟨w.heap.size, 7, none⟩ = some (.int .u16 (p.pf : Int)) := (CR.out _ g0 7).trans rfl
 have c8 : (w.alloc (.cells cs.toArray 37)).cell? ⟨w.heap.size, 8, none⟩ = some (.slice B1 p.xt.length cb) := (CR.out _ g0 8).trans rfl
 have c10 : (w.alloc (.cells cs.toArray 37)).cell? ⟨w.heap.size, 10, none⟩ = some (.int .u8 (p.pd : Int)) := (CR.out _ g0 10).trans rfl
 clear u1 x1 y1 e1 h g0 hF hG hF2 hG2 hw0
 rw [m3] at c8
 rw [m3b] at c7
 have e9 : IntKind.i64.wrap (128 + (p.ot.length : Int)) = ((128 + p.ot.length : Nat) : Int) := by rw [IntKind.wrap_i64]; omega
 have e10 : IntKind.u8.wrap ((128 + p.ot.length : Nat) : Int) = ((128 + p.ot.length : Nat) : Int) := by rw [IntKind.wrap_u8]; omega
 have e8 : IntKind.u8.wrap (IntKind.i64.wrap (128 + (p.ot.length : Int))) = ((128 + p.ot.length : Nat) : Int) := by rw [e9]; exact e10
 obtain ⟨a1, ha1⟩ : ∃ a1, a1 = 128 + p.ot.length := ⟨_, rfl⟩
 rw [← ha1] at e8 e9 e10
 have HA1 := Lib.hid ha1
 have la1 : a1 ≤ 143 := by omega
 clear ha1
 go_enter Tryz.func27, Tryz.ntmps27
 go_wp2
 go_quiet (fail)
 have b1 : Hid (Below w0.heap.size w0 ((w.alloc (.cells cs.toArray 37)).drewN nq)) := Lib.hid (by rw [HW0.out]; exact ⟨rfl, rfl, rfl, Nat.le_refl _, fun _ _ => rfl⟩)
 clear c0 c1 c5 c6 c7 c8 c10 e8 e9 e10
 generalize (w.alloc (.cells cs.toArray 37)).drewN nq = w1 at b1 ⊢
 have c0 : w1.cell? ⟨w.heap.size, 0, none⟩ = some (.bool p.m) := (CR.out _ b1.out 0).trans rfl
 have c6 : w1.cell? ⟨w.heap.size, 6, none⟩ = some (.bool false) := (CR.out _ b1.out 6).trans rfl
 have c10 : w1.cell? ⟨w.heap.size, 10, none⟩ = some (.int .u8 (p.pd : Int)) := (CR.out _ b1.out 10).trans rfl
 go_upto_if 56 with (fail)
 go_cut [4] (fun v wx => v = .int .u8 ((a1 + (if 0 < p.pd then 32 else 0) : Nat) : Int) ∧ wx = w1)
 case first =>
  by_cases hp : 0 < p.pd
  · go_wp2_with (fail)
    go_meet
    exact ⟨by rw [if_pos hp]; rfl, rfl⟩
  · go_wp2_with (fail)
    go_meet
    exact ⟨by rw [if_neg hp]; rfl, rfl⟩
 case rest =>
  obtain ⟨rfl, hwc⟩ := hcut
  rw [hwc]
  clear hwc
  rw [show a1 + (if 0 < p.pd then 32 else 0) = F by have h1 := HF2.out; have h2 := HA1.out; omega]
  go_upto_if 64 with (fail)
  go_cut [5] (fun v wx => v = .int .u8 (G : Int) ∧ wx = w1)
  case first =>
   have hm : p.m = true ∨ p.m = false := by cases p.m <;> simp
   rcases hm with hm | hm
   · rw [hm] at c0 ⊢
     have hGe : ((p.ty : Int) + 128) = (G : Int) := by have h1 := HG2.out; rw [if_pos hm] at h1; omega
     go_wp2_with (fail)
     go_meet
     exact ⟨by rw [← hGe], rfl⟩
   · rw [hm] at c0 ⊢
     have hGe : p.ty = G := by have h1 := HG2.out; rw [hm] at h1; simpa using h1.symm
     go_wp2_with (fail)
     go_meet
     exact ⟨by rw [← hGe], rfl⟩
  case rest =>
   obtain ⟨rfl, hwc⟩ := hcut
   rw [hwc]
   clear hwc
   have ba : Below w0.heap.size w0 (w1.alloc (.cells #[.int .u8 (F : Int), .int .u8 (G : Int)] 5)) := b1.out.alloc b1.out.size _
   have oa := Lib.hid (two_own w1 w0.heap.size F G lF lG b1.out.size)
   have c2 : (w1.alloc (.cells #[.int .u8 (F : Int), .int .u8 (G : Int)] 5)).cell? ⟨w.heap.size, 2, none⟩ = some (.int .u16 (p.sq : Int)) := (CR.out _ ba 2).trans rfl
   have BA := Lib.hid ba
   clear ba c0 c6 c10
   go_wp2_with (first
    | (go_at_call 42; ((with_reducible refine (rputW w0 _ (some ⟨w1.heap.size, 0, none⟩) 2 2 (beb 1 F ++ beb 1 G) 2 p.sq _ 4 (by omega) (by omega) BA.out (RdS.of_own oa.out) (by omega) (by omega) (by omega) (by omega)).mono ?_); rintro e w4 ⟨A4, q4, rfl, hk, hb⟩; have o4 := Lib.hid hk; have b4 := Lib.hid hb; have c3 : w4.cell? ⟨w.heap.size, 3, none⟩ = some (.int .u32 (p.st : Int)) := (CR.out _ hb 3).trans rfl; clear hk hb))
    | (go_at_call 42; ((with_reducible refine (rputW w0 _ A4 4 q4 ((beb 1 F ++ beb 1 G) ++ beb 2 p.sq) 4 p.st _ 8 (by omega) (by omega) b4.out (RdS.of_own o4.out) (by omega) (by omega) (by omega) (by omega)).mono ?_); rintro e w5 ⟨A5, q5, rfl, hk, hb⟩; have o5 := Lib.hid hk; have b5 := Lib.hid hb; have c4 : w5.cell? ⟨w.heap.size, 4, none⟩ = some (.int .u32 (p.so : Int)) := (CR.out _ hb 4).trans rfl; clear hk hb))
    | (go_at_call 42; ((with_reducible refine (rputW w0 _ A5 8 q5 (((beb 1 F ++ beb 1 G) ++ beb 2 p.sq) ++ beb 4 p.st) 4 p.so _ 12 (by omega) (by omega) b5.out (RdS.of_own o5.out) (by omega) (by omega) (by omega) (by omega)).mono ?_); rintro e w6 ⟨A6, q6, rfl, hk, hb⟩; have o6 := Lib.hid hk; have b6 := Lib.hid hb; have c5 : w6.cell? ⟨w.heap.size, 5, none⟩ = some (.slice A1 p.ot.length ca) := (CR.out _ hb 5).trans rfl; clear hk hb)))
   obtain ⟨H, hHe⟩ : ∃ H, H = (((beb 1 F ++ beb 1 G) ++ beb 2 p.sq) ++ beb 4 p.st) ++ beb 4 p.so := ⟨_, rfl⟩
   have lH : Hid (H.length = 12) := Lib.hid (by rw [hHe]; simp only [List.length_append, length_beb])
   have hHp : Hid (H = hdB p) := Lib.hid (by rw [hHe, HF_.out, HG_.out, beb_one, beb_one]; simp [hdB])
   rw [← hHe] at o6
   clear hHe o4 o5 oa BA b4 b5 c2 c3 c4
   have HL0 := Lib.hid (otB_len p.ot)
   have c5 : w6.cell? ⟨w.heap.size, 5, none⟩ = some (.slice A1 p.ot.length ca) := (CR.out _ b6.out 5).trans rfl
   go_loopw [6, 7] (fun b i wr => ∃ (k : Nat) (A : Option Addr) (c : Nat), k ≤ p.ot.length ∧ i = .int .i64 k ∧ b = .slice A (12 + 4 * k) c ∧ Hid (wr.ownsRow w0.heap.size 5 1 (.slice A (12 + 4 * k) c) (12 + 4 * k) (cells (H ++ otB (p.ot.take k))) ∧ Below w0.heap.size w0 wr)) (fun _ i _ => p.ot.length - (intOf i).toNat)
   case atStart => exact ⟨0, A6, q6, by omega, rfl, rfl, Lib.hid ⟨by rw [show H ++ otB (p.ot.take 0) = H by simp [otB]]; exact o6.out, b6.out⟩⟩
   case round =>
    obtain ⟨k, A, c, hk, rfl, rfl, HL⟩ := hrel
    have c5 : wr.cell? ⟨w.heap.size, 5, none⟩ = some (.slice A1 p.ot.length ca) := (CR.out _ HL.out.2 5).trans rfl
    by_cases hkn : k < p.ot.length
    · obtain ⟨bU, oU, rfl, hlt, hcU⟩ := HU.out.2.2 (by omega)
      have hcell : wr.cell? ⟨bU, oU + k, none⟩ = some (.int .u32 ((p.ot.getD k 0 : Nat) : Int)) := (HL.out.2.cell (p := ⟨bU, oU + k, none⟩) hlt).trans (hcU k hkn)
      have hxl : p.ot.getD k 0 < 4294967296 := by
       have hm : p.ot.getD k 0 = p.ot[k] := by simp [List.getD, hkn]
       rw [hm]; exact f4 _ (List.getElem_mem hkn)
      have hnew : Hid ((H ++ otB (p.ot.take k)) ++ beb 4 (p.ot.getD k 0) = H ++ otB (p.ot.take (k + 1))) := Lib.hid (by rw [take_snocU hkn, otB_snoc, List.append_assoc])
      obtain ⟨xx, hxx⟩ : ∃ xx, xx = p.ot.getD k 0 := ⟨_, rfl⟩
      rw [← hxx] at hcell hxl hnew
      clear hxx hcU
      go_wp2_with (go_at_call 42; ((with_reducible refine (rputW w0 _ A (12 + 4 * k) c (H ++ otB (p.ot.take k)) 4 xx _ (12 + 4 * (k + 1)) (by omega) (by omega) HL.out.2 (RdS.of_own HL.out.1) (by omega) (by omega) (by omega) (by omega)).mono ?_); rintro e w7 ⟨A7, q7, rfl, hk7, hb7⟩; have h7 := Lib.hid (show w7.ownsRow w0.heap.size 5 1 (.slice A7 (12 + 4 * (k + 1)) q7) (12 + 4 * (k + 1)) (cells (H ++ otB (p.ot.take (k + 1)))) ∧ Below w0.heap.size w0 w7 from ⟨hnew.out ▸ hk7, hb7⟩); clear hk7 hb7))
      go_roundw
      case rel => exact ⟨k + 1, A7, q7, by omega, by go_num, rfl, h7⟩
      case measure => simp [intOf]; omega
    · have hke : k = p.ot.length := by omega
      subst hke
      rw [List.take_length] at HL
      have o8 := Lib.hid HL.out.1
      have b8 := Lib.hid HL.out.2
      clear HL
      obtain ⟨N, hN⟩ : ∃ N, N = 12 + 4 * p.ot.length := ⟨_, rfl⟩
      obtain ⟨T, hT⟩ : ∃ T, T = H ++ otB p.ot := ⟨_, rfl⟩
      have lT : Hid (T.length = N) := Lib.hid (by rw [hT, hN, List.length_append, lH.out, HL0.out])
      have hTp : Hid (T = hdB p ++ otB p.ot) := Lib.hid (by rw [hT, hHp.out])
      have lN : N ≤ 72 := by omega
      rw [← hT, ← hN] at o8
      rw [← hN]
      clear hT hN
      have c6 : wr.cell? ⟨w.heap.size, 6, none⟩ = some (.bool false) := (CR.out _ b8.out 6).trans rfl
      have c7 : wr.cell? ⟨w.heap.size, 7, none⟩ = some (.int .u16 (p.pf : Int)) := (CR.out _ b8.out 7).trans rfl
      have c9 : wr.cell? ⟨w.heap.size, 9, none⟩ = some (.slice D1 p.pl.length cd) := (CR.out _ b8.out 9).trans rfl
      go_wp2_with (first
       | (at_builtin; refine wpList_append_rd _ rfl (.tmp 118) (.tmp 120) rfl Tryz.underlying35 u8_info w0.heap.size (.slice A N c) (N) (T) rfl o8.out D1 p.pl.length cd (p.pl) rfl (HY.out.below b8.out) (by omega) b8.out.size ?_; intro v20 w20 hown hg hat; obtain ⟨A20, q20, hv⟩ := own_form hown; subst hv; have b20 : Hid (Below w0.heap.size w0 w20) := Lib.hid (b8.out.grown hg b8.out.size (fun q hq => ((o8.out).lt q hq).1)); have o20 := Lib.hid hown; have c10 : w20.cell? ⟨w.heap.size, 10, none⟩ = some (.int .u8 (p.pd : Int)) := (CR.out _ b20.out 10).trans rfl; clear hown hg hat)
       | fail)
      obtain ⟨N2, hN2⟩ : ∃ N2, N2 = N + p.pl.length := ⟨_, rfl⟩
      obtain ⟨T2, hT2⟩ : ∃ T2, T2 = (T) ++ p.pl := ⟨_, rfl⟩
      have hfin : Hid (T2 ++ padB p.pd = wrB p) := Lib.hid (by rw [hT2, hTp.out]; simp [wrB, exBt, HX_.out])
      have lN2 : N2 ≤ 20000 := by omega
      rw [← hN2, ← hT2] at o20
      rw [← hN2]
      have HN2 := Lib.hid hN2
      clear hT2 hN2
      have c10 : w20.cell? ⟨w.heap.size, 10, none⟩ = some (.int .u8 (p.pd : Int)) := (CR.out _ b20.out 10).trans rfl
      go_loopw [6, 8] (fun b i wr => ∃ (j : Nat) (A : Option Addr) (c : Nat), (j = 0 ∨ j + 1 ≤ p.pd) ∧ i = .int .i64 ((j : Int) + 1) ∧ b = .slice A (N2 + j) c ∧ Hid (wr.ownsRow w0.heap.size 5 1 (.slice A (N2 + j) c) (N2 + j) (cells (T2 ++ List.replicate j 0)) ∧ Below w0.heap.size w0 wr)) (fun _ i _ => p.pd - (intOf i).toNat)
      case atStart => exact ⟨0, A20, q20, .inl rfl, by simp, rfl, Lib.hid ⟨by rw [List.replicate_zero, List.append_nil]; exact o20.out, b20.out⟩⟩
      case round =>
       obtain ⟨j, A, c, hj, rfl, rfl, HL⟩ := hrel
       have c10 : wr.cell? ⟨w.heap.size, 10, none⟩ = some (.int .u8 (p.pd : Int)) := (CR.out _ HL.out.2 10).trans rfl
       by_cases hjn : j + 1 < p.pd
       · go_wp2_with (at_builtin; refine wpList_append_rd _ rfl (.tmp 129) (.tmp 130) rfl Tryz.underlying35 u8_info w0.heap.size (.slice A (N2 + j) c) (N2 + j) (T2 ++ List.replicate j 0) rfl (HL.out.1.alloc _) (some ⟨wr.heap.size, 0, none⟩) 1 1 [0] rfl (rd_zero wr) (by omega) (by have := HL.out.2.size; simp; omega) ?_; intro v30 w30 hown hg hat; obtain ⟨A30, q30, hv⟩ := own_form hown; subst hv; have h30 := Lib.hid (show w30.ownsRow w0.heap.size 5 1 (.slice A30 (N2 + (j + 1)) q30) (N2 + (j + 1)) (cells (T2 ++ List.replicate (j + 1) 0)) ∧ Below w0.heap.size w0 w30 from ⟨by rw [List.replicate_succ', ← List.append_assoc]; exact hown, (HL.out.2.alloc HL.out.2.size _).grown hg (by have := HL.out.2.size; simp; omega) (fun q hq => (HL.out.1.lt q hq).1)⟩); clear hown hg hat)
         go_roundw
         case rel => exact ⟨j + 1, A30, q30, .inr (by omega), by go_num, rfl, h30⟩
         case measure => simp [intOf]; omega
       · by_cases hp0 : p.pd = 0
         · have hj0 : j = 0 := by omega
           subst hj0
           have hfe : T2 ++ List.replicate 0 0 = wrB p := by rw [← hfin.out, hp0]; rfl
           have hr := Lib.hid (RdS.of_own HL.out.1)
           have hn := Lib.hid (show (wrB p).length = N2 + 0 by have := hr.out.len; rw [hfe] at this; exact this)
           by_cases htot : N2 + 0 ≤ 1200
           · go_wp2
             go_ret2
             refine ⟨.inl ⟨by rw [hn.out]; exact htot, A, c, by rw [hn.out]; rfl, by rw [hn.out, ← hfe]; exact own_loW HL.out.1 (by rw [HW0.out]; simp)⟩, ?_⟩
             exact HW.out.trans (by rw [← HW0.out]; exact HL.out.2.mono (by rw [HW0.out]; simp))
           · go_wp2
             go_ret2
             refine ⟨.inr ⟨by rw [hn.out]; omega, rfl⟩, ?_⟩
             exact HW.out.trans (by rw [← HW0.out]; exact HL.out.2.mono (by rw [HW0.out]; simp))
         · have hjp : j + 1 = p.pd := by omega
           have hfe : Hid ((T2 ++ List.replicate j 0) ++ [UInt8.ofNat p.pd] = wrB p) := Lib.hid (by
            rw [← hfin.out, ← hjp]
            unfold padB
            rw [if_neg (by omega), Nat.add_sub_cancel, List.append_assoc])
           have hpp : 0 < p.pd := by omega
           have hlw : Hid ((wrB p).length = N2 + j + 1) := Lib.hid (by
            have := HL.out.1.1
            rw [← hfe.out, List.length_append, List.length_singleton]
            rw [length_cells] at this
            omega)
           by_cases htot : N2 + j + 1 ≤ 1200
           · go_wp2_with (at_builtin; refine wpList_append_rd _ rfl (.tmp 135) (.tmp 138) rfl Tryz.underlying35 u8_info w0.heap.size (.slice A (N2 + j) c) (N2 + j) (T2 ++ List.replicate j 0) rfl (HL.out.1.alloc _) (some ⟨wr.heap.size, 0, none⟩) 1 1 [UInt8.ofNat p.pd] rfl (rd_one wr p.pd f6) (by omega) (by have := HL.out.2.size; simp; omega) ?_; intro v40 w40 hown hg hat; obtain ⟨A40, q40, hv⟩ := own_form hown; subst hv; have o40 := Lib.hid hown; have b40 := Lib.hid ((HL.out.2.alloc HL.out.2.size (.cells #[.int .u8 (p.pd : Int)] 5)).grown hg (by have := HL.out.2.size; simp; omega) (fun q hq => (HL.out.1.lt q hq).1)); clear hown hg hat)
             go_ret2
             refine ⟨.inl ⟨by rw [hlw.out]; exact htot, A40, q40, by rw [hlw.out]; rfl, by rw [hlw.out, ← hfe.out]; exact own_loW o40.out (by rw [HW0.out]; simp)⟩, ?_⟩
             exact HW.out.trans (by rw [← HW0.out]; exact b40.out.mono (by rw [HW0.out]; simp))
           · go_wp2_with (at_builtin; refine wpList_append_rd _ rfl (.tmp 135) (.tmp 138) rfl Tryz.underlying35 u8_info w0.heap.size (.slice A (N2 + j) c) (N2 + j) (T2 ++ List.replicate j 0) rfl (HL.out.1.alloc _) (some ⟨wr.heap.size, 0, none⟩) 1 1 [UInt8.ofNat p.pd] rfl (rd_one wr p.pd f6) (by omega) (by have := HL.out.2.size; simp; omega) ?_; intro v40 w40 hown hg hat; obtain ⟨A40, q40, hv⟩ := own_form hown; subst hv; have o40 := Lib.hid hown; have b40 := Lib.hid ((HL.out.2.alloc HL.out.2.size (.cells #[.int .u8 (p.pd : Int)] 5)).grown hg (by have := HL.out.2.size; simp; omega) (fun q hq => (HL.out.1.lt q hq).1)); clear hown hg hat)
             go_ret2
             refine ⟨.inr ⟨by rw [hlw.out]; omega, rfl⟩, ?_⟩
             exact HW.out.trans (by rw [← HW0.out]; exact b40.out.mono (by rw [HW0.out]; simp))

end Go.Proofs.YtmkeioeodlidgaaGreatDoor
