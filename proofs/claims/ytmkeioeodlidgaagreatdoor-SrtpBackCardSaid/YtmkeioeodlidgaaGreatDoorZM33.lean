/- Several texts in one: Plain words, for any program: an array of bytes that comes in by value. SrtpBack's walk: a packet sealed is opened once; with a byte turned it isn't, whichever. No statement is proved here. -/
import Derived.Test.YtmkeioeodlidgaaGreatDoorZBytes
import Derived.WideKeyArgs
import Derived.OpenShut
import Derived.WideShapes
import Derived.Test.YtmkeioeodlidgaaGreatDoorZM32
import Derived.Test.YtmkeioeodlidgaaGreatDoorZM22
import Derived.StillTailTactics
namespace Go.Proofs.YtmkeioeodlidgaaGreatDoor
open Go.RowKit Go.ChangeShapes Go.WideShapes

/-- The byte that a cell holds. -/
def byteAt (v : Option Value) : UInt8 := match v with
  | some (Value.int IntKind.u8 z) => UInt8.ofNat z.toNat
  | _ => 0
end Go.Proofs.YtmkeioeodlidgaaGreatDoor

namespace Go.Proofs.YtmkeioeodlidgaaGreatDoor
open Go.RowKit
set_option linter.unusedVariables false

/-- The law's objects: three ways, what is sealed, the packet that is opened. -/
def RB (pk : Pkt) (X : List UInt8) : Nat → World → Value → Wy → (Nat → Prop) → Prop
  | 0 => RP
  | 1 => RP
  | 2 => RP
  | 3 => ROwn X
  | _ + 4 => RBox pk
theorem rb_lone (pk : Pkt) (X : List UInt8) : ∀ i, Lone (RB pk X i)
  | 0 => rp_lone
  | 1 => rp_lone
  | 2 => rp_lone
  | 3 => rown_lone _
  | _ + 4 => rbox_lone _
theorem Ways.swap {R R' : Nat → World → Value → Wy → (Nat → Prop) → Prop} {n : Nat} {w wx wy : World} {p : Nat → Value} {y : Nat → Wy} {F : Nat → Nat → Prop} (hL : ∀ i, Lone (R i)) (h : Ways R n w p y F wx) {i : Nat} (hi : i < n) (hR : ∀ j, j ≠ i → R' j = R j) (hf : Fr (F i) wx wy) (hr : R' i wy (p i) (y i) (F i)) : Ways R' n w p y F wy := by
  refine ⟨fun j hj => ?_, h.dis, h.lo, h.below.trans (hf.below (h.lo i hi) h.below.size)⟩
  by_cases e : j = i
  · subst e; exact hr
  · rw [hR j e]
    exact (hL j).fr (h.ob j hj) hf (fun k hk hk2 => h.dis j i hj hi e k hk hk2)
section
variable {P : Program} {w : World} {ops : Array Oper} {rest : List Oper} {op : Oper} {a : Act} {Q : Exit → Act → World → Prop}
theorem wpList_built1y (hgd : op.guard = none) (t : TypeId) (i : Nat) (x : Operand) (ho : op.op = .build t #[(i, x)]) (u v : Value) (hx : a.eval x = u) (hr : (Instr.build t #[(i, u)]).run P w = .ok v w)
    (hK : wpList P ops Q rest (a.put op.dst v) w) : wpList P ops Q (op :: rest) a w := by
  refine wpList_plain hgd fun K hK2 => ?_
  unfold Oper.wp execOp
  simp only [ho, List.map_toArray, List.map_cons, List.map_nil, hx, Sem.run_bind, hr, Result.andThen_ok, Sem.run_pure]
  exact hK2 _ _ hK
end
theorem run_op {W : World} {cs : List Value} {pk : Pkt} (h : PkRd W cs pk) (w : World) : (Instr.build 39 #[(0, .agg cs.toArray)]).run Tryz.prog w = .ok (.agg (cs ++ opT 0 false 0 0 none 0 0).toArray) w := by
  obtain ⟨A1, a1, B1, b1, D1, d1, rfl, _⟩ := h
  kernel_rfl
/-- A byte of a row turned. -/
def flipB (X : List UInt8) (k f : Nat) : List UInt8 := X.set k (X.getD k 0 ^^^ UInt8.ofNat f)
theorem flip_xor (x : UInt8) (f : Nat) (hf : f < 256) : bits BinOp.xor IntKind.u8 (x.toNat : Int) (f : Int) = ((x ^^^ UInt8.ofNat f).toNat : Int) := by
  have e : f = (UInt8.ofNat f).toNat := by simp; omega
  rw [show (f : Int) = (((UInt8.ofNat f).toNat : Nat) : Int) from congrArg _ e]
  exact xr_byte x (UInt8.ofNat f)
theorem pk_cell {w : World} {cs : List Value} {pk : Pkt} (h : PkRd w cs pk) : cs[10]? = some (.int .u8 (pk.pd : Int)) ∧ cs[2]? = some (.int .u16 (pk.sq : Int)) ∧ cs.set 10 (.int .u8 (pk.pd : Int)) = cs := by
  obtain ⟨A1, a1, B1, b1, D1, d1, rfl, _⟩ := h
  exact ⟨rfl, rfl, rfl⟩
set_option maxRecDepth 100000 in
set_option maxHeartbeats 2000000 in
theorem srtpBack_walk (key salt : List UInt8) (cs : List Value) (pk : Pkt) (a f : Int) (w : World) (ht : TabH w) (hw : 0 < w.heap.size) (hk : key.length = 16) (hs : salt.length = 14) (hp : PkRd w cs pk) (hf : fits pk) (ha : (Lit.int .u16 a).wf = true) (hff : (Lit.int .u8 f).wf = true) :
    Calls Tryz.prog 4 #[.agg (cells (mst key salt)).toArray, .agg cs.toArray, .int .u16 a, .int .u8 f] w fun e w' => e = .returned (.bool true) ∧ Below w.heap.size w w' := by
  have hab := bounds_u16 ha
  have hfb := bounds_u8 hff
  obtain ⟨a, rfl⟩ := Int.eq_ofNat_of_zero_le hab.1
  obtain ⟨f, rfl⟩ := Int.eq_ofNat_of_zero_le hfb.1
  have ha6 : a < 65536 := by omega
  have hf6 : f < 256 := by omega
  clear hab hfb ha hff
  obtain ⟨wB, hwB⟩ : ∃ x, x = (w.alloc (.cells (cells (mst key salt)).toArray 25)).alloc (.cells cs.toArray 37) := ⟨_, rfl⟩
  have hbB : Below w.heap.size w wB := hwB ▸ twoBelow w _ _
  have hMB : BlkV wB w.heap.size 25 (cells (mst key salt)) := hwB ▸ (BlkV.new w _ _).alloc _
  have hPB : BlkV wB (w.heap.size + 1) 37 cs := hwB ▸ BlkV.new_at _ _ _ _ _ (size_alloc _ _).symm rfl
  have hpB := hp.below hbB
  have htB := tab_below ht hbB
  have hzB : 0 < wB.heap.size := Nat.lt_of_lt_of_le hw hbB.size
  have HML : Hid ((cells (mst key salt)).length = 30) := Lib.hid (by rw [length_cells, mst_len key salt hk hs])
  have HTW : Hid (∀ W, Below wB.heap.size wB W → TabH W) := Lib.hid (fun W hb => tab_below htB hb)
  have HMW : Hid (∀ W, Below wB.heap.size wB W → BlkV W w.heap.size 25 (cells (mst key salt))) := Lib.hid (fun W hb => hMB.below hb hMB.lt)
  have HPW : Hid (∀ W, Below wB.heap.size wB W → BlkV W (w.heap.size + 1) 37 cs ∧ PkRd W cs pk) := Lib.hid (fun W hb => ⟨hPB.below hb hPB.lt, hpB.below hb⟩)
  have HAL := Lib.hid (alive15_any wB htB hzB)
  have HGR := Lib.hid (fun W (hb : Below wB.heap.size wB W) => great15_any cs pk 0 false 0 0 none 0 0 W (hpB.below hb) (by omega))
  have HOP := Lib.hid (run_op hp)
  have HPL := Lib.hid hp.len
  have HPC := Lib.hid (pk_cell hp)
  have HBW : Hid (∀ W, Below wB.heap.size wB W → Below w.heap.size w W) := Lib.hid (fun W hb => hbB.trans (hb.mono hbB.size))
  have HN9 := Lib.hid (fun W => new15_any key salt 9 W hk hs)
  have HR1 := Lib.hid (fun W => rnew15_any key salt 1 W hk hs)
  have HKS := Lib.hid (And.intro hk hs)
  have HFT := Lib.hid hf
  have HG9 := Lib.hid (newY_good key salt 9 (by decide))
  clear ht hw hk hs hp hf hbB hMB hPB hpB htB hzB
  go_enter Tryz.func4, Tryz.ntmps4
  go_upto_region 1 with (fail)
  rw [← hwB]
  clear hwB
  go_upto_region 3 with (go_at_call 5; ((with_reducible refine (Hid.out HAL).mono ?_); rintro e w1 ⟨rfl, hb1⟩; have HB1 := Lib.hid hb1; clear hb1))
  clear HAL
  have RP1 := Lib.hid ((HPW.out _ HB1.out).1.range 0 cs (fun i _ => by rw [Nat.zero_add]))
  have RT : Hid (RowTy Tryz.prog 37 cs.length) := Lib.hid (row11 HPL.out)
  have RM : Hid (RowTy Tryz.prog 25 (cells (mst key salt)).length) := Lib.hid (row30 HML.out)
  cases hgr : grY pk 0 with
  | true =>
    have HG1 := Lib.hid (HGR.out w1 HB1.out)
    rw [hgr] at HG1
    clear hgr
    go_wp2_with (first
      | (with_reducible refine wpList_ld rfl 37 (.tmp 5) rfl (w.heap.size + 1) 0 rfl cs RP1.out RT.out ?_)
      | (with_reducible refine wpList_built1y rfl 39 0 (.tmp 26) rfl (.agg cs.toArray) (.agg (cs ++ opT 0 false 0 0 none 0 0).toArray) rfl (HOP.out w1) ?_)
      | (go_at_call 8; ((with_reducible refine (HG1.out).mono ?_); rintro e w2 ⟨rfl, hb2⟩; have HB2 := Lib.hid (HB1.out.trans (hb2.mono HB1.out.size)); clear hb2)))
    go_ret
    exact ⟨rfl, HBW.out _ HB2.out⟩
  | false =>
    have HG1 := Lib.hid (HGR.out w1 HB1.out)
    rw [hgr] at HG1
    have hsm : pk.ot.length ≤ 60 ∧ pk.xt.length ≤ 1500 ∧ pk.pl.length ≤ 1500 := by
      unfold grY at hgr
      have := of_decide_eq_false hgr
      omega
    have HSMALL := Lib.hid hsm
    clear hgr hsm
    go_upto_region 5 with (first
      | (with_reducible refine wpList_ld rfl 37 (.tmp 5) rfl (w.heap.size + 1) 0 rfl cs RP1.out RT.out ?_)
      | (with_reducible refine wpList_built1y rfl 39 0 (.tmp 26) rfl (.agg cs.toArray) (.agg (cs ++ opT 0 false 0 0 none 0 0).toArray) rfl (HOP.out w1) ?_)
      | (go_at_call 8; ((with_reducible refine (HG1.out).mono ?_); rintro e w2 ⟨rfl, hb2⟩; have HB2 := Lib.hid (HB1.out.trans (hb2.mono HB1.out.size)); clear hb2)))
    clear HGR HG1 RP1 HB1
    obtain ⟨X, hX⟩ : ∃ X, X = outSeal (newY key salt 9) pk (pk.sq : Int) := ⟨_, rfl⟩
    have HL := Lib.hid (rb_lone pk X)
    refine wp_region_noPanic ?_
    refine wp_region_held (S := fun wx => BlkV wx w.heap.size 25 (cells (mst key salt))) (by kernel_rfl) ?_
    change wpAnyH _ _ _ _ _ _ _ _ (World.drew _)
    obtain ⟨w3, hw3⟩ : ∃ x, x = w2.drew := ⟨_, rfl⟩
    rw [← hw3]
    have HB3 : Hid (Below wB.heap.size wB w3) := Lib.hid (hw3 ▸ HB2.out.drew)
    have hS := HMW.out _ HB3.out
    clear hw3 HB2
    refine wpAnyH_take (i := 0) (v := .agg (cells (mst key salt)).toArray) rfl (by kernel_rfl) (by kernel_rfl) (by kernel_rfl) (fun _ _ _ h => h) (Or.inl ⟨by rfl, fun wz hz => ?_⟩) hS ?_
    · (exact run_ld 25 _ rfl w.heap.size 0 (by rfl) (cells (mst key salt)) (hz.range 0 _ (fun i _ => by rw [Nat.zero_add])) RM.out)
    simp only [Act.put, List.getElem_toArray, List.getElem_cons_zero, List.setIfInBounds_toArray, List.set_cons_succ, List.set_cons_zero]
    refine wpAnyH_take (i := 2) (v := .agg (cells (mst key salt)).toArray) rfl (by kernel_rfl) (by kernel_rfl) (by kernel_rfl) (fun _ _ _ h => h) (Or.inl ⟨by rfl, fun wz hz => ?_⟩) hS ?_
    · (exact run_ld 25 _ rfl w.heap.size 0 (by rfl) (cells (mst key salt)) (hz.range 0 _ (fun i _ => by rw [Nat.zero_add])) RM.out)
    simp only [Act.put, List.getElem_toArray, List.getElem_cons_succ, List.getElem_cons_zero, List.setIfInBounds_toArray, List.set_cons_succ, List.set_cons_zero]
    refine wpAnyH_take (i := 4) (v := .agg (cells (mst key salt)).toArray) rfl (by kernel_rfl) (by kernel_rfl) (by kernel_rfl) (fun _ _ _ h => h) (Or.inl ⟨by rfl, fun wz hz => ?_⟩) hS ?_
    · (exact run_ld 25 _ rfl w.heap.size 0 (by rfl) (cells (mst key salt)) (hz.range 0 _ (fun i _ => by rw [Nat.zero_add])) RM.out)
    simp only [Act.put, List.getElem_toArray, List.getElem_cons_succ, List.getElem_cons_zero, List.setIfInBounds_toArray, List.set_cons_succ, List.set_cons_zero]
    refine anyH_one (i := 1) (by kernel_rfl) rfl rfl (fun HH hH => ?_)
    simp only [List.getElem_toArray, List.getElem_cons_succ, List.getElem_cons_zero]
    go_simp
    refine (HN9.out w3).mono ?_
    rintro e w4 ⟨pa, gaF, rfl, ha, la, hb⟩
    obtain ⟨ga, gab, hpa, hwa, hfa⟩ := rp_ptr ha
    subst hpa
    clear hwa hfa
    have HA1 := Lib.hid ((Ways.zeroB (w := wB) (RB pk X) (fun _ => undef) (fun _ => newY key salt 9) (fun _ _ => False) HB3.out).more HL.out hb ha la)
    have hSw4 := HMW.out _ HA1.out.below
    refine hH _ _ hSw4 ?_
    clear hH ha la hb
    refine anyH_one (i := 3) (by kernel_rfl) rfl rfl (fun HH hH => ?_)
    simp only [List.getElem_toArray, List.getElem_cons_succ, List.getElem_cons_zero]
    go_simp
    refine (HN9.out w4).mono ?_
    rintro e w5 ⟨pb, gbF, rfl, ha, la, hb⟩
    obtain ⟨gb, gbb, hpa, hwa, hfa⟩ := rp_ptr ha
    subst hpa
    clear hwa hfa
    have HA2 := Lib.hid (HA1.out.more HL.out hb ha la)
    have hSw5 := HMW.out _ HA2.out.below
    refine hH _ _ hSw5 ?_
    clear hH ha la hb
    refine anyH_one (i := 5) (by kernel_rfl) rfl rfl (fun HH hH => ?_)
    simp only [List.getElem_toArray, List.getElem_cons_succ, List.getElem_cons_zero]
    go_simp
    refine (HN9.out w5).mono ?_
    rintro e w6 ⟨pc, gcF, rfl, ha, la, hb⟩
    obtain ⟨gc, gcb, hpa, hwa, hfa⟩ := rp_ptr ha
    subst hpa
    clear hwa hfa
    have HA3 := Lib.hid (HA2.out.more HL.out hb ha la)
    have hSw6 := HMW.out _ HA3.out.below
    refine hH _ _ hSw6 ?_
    clear hH ha la hb
    refine wpAnyH_take (i := 6) (v := ?_) rfl (by kernel_rfl) (by kernel_rfl) (by kernel_rfl) (fun _ _ _ h => h) (Or.inl ⟨by rfl, ?_⟩) hSw6 ?_
    case refine_2 => (intro wz hz; go_simp; with_reducible rfl)
    simp only [Act.put, List.getElem_toArray, List.getElem_cons_succ, List.getElem_cons_zero, List.setIfInBounds_toArray, List.set_cons_succ, List.set_cons_zero]
    refine wpAnyH_take (i := 7) (v := ?_) rfl (by kernel_rfl) (by kernel_rfl) (by kernel_rfl) (fun _ _ _ h => h) (Or.inl ⟨by rfl, ?_⟩) hSw6 ?_
    case refine_2 => (intro wz hz; go_simp; with_reducible rfl)
    simp only [Act.put, List.getElem_toArray, List.getElem_cons_succ, List.getElem_cons_zero, List.setIfInBounds_toArray, List.set_cons_succ, List.set_cons_zero]
    refine wpAnyH_take (i := 8) (v := ?_) rfl (by kernel_rfl) (by kernel_rfl) (by kernel_rfl) (fun _ _ _ h => h) (Or.inl ⟨by rfl, ?_⟩) hSw6 ?_
    case refine_2 => (intro wz hz; go_simp; with_reducible rfl)
    simp only [Act.put, List.getElem_toArray, List.getElem_cons_succ, List.getElem_cons_zero, List.setIfInBounds_toArray, List.set_cons_succ, List.set_cons_zero]
    refine wpAnyH_done (by kernel_rfl) ?_ _
    refine NoPanic.normal ?_
    obtain ⟨p6, y6, F6, hA6⟩ : ∃ p y F, Ways (RB pk X) 3 wB p y F w6 ∧ p 0 = .pointer (some ⟨ga, 0, none⟩) ∧ p 1 = .pointer (some ⟨gb, 0, none⟩) ∧ p 2 = .pointer (some ⟨gc, 0, none⟩) ∧ y 0 = newY key salt 9 ∧ y 1 = newY key salt 9 ∧ y 2 = newY key salt 9 := ⟨_, _, _, HA3.out, rfl, rfl, rfl, rfl, rfl, rfl⟩
    clear HA1 HA2 HA3 hS hSw4 hSw5 hSw6 HB3 HN9
    have c2 : w6.cell? ⟨w.heap.size + 1, 2, none⟩ = some (.int .u16 (pk.sq : Int)) := ((HPW.out _ hA6.1.below).1.cell 2).trans HPC.out.2.1
    have RP6 := Lib.hid ((HPW.out _ hA6.1.below).1.range 0 cs (fun i _ => by rw [Nat.zero_add]))
    have hsq := HFT.out.1
    have ewq : IntKind.i64.wrap (pk.sq : Int) = (pk.sq : Int) := IntWalk.i64_in _ (by omega)
    have HSE : Hid (Calls Tryz.prog 9 #[.pointer (some ⟨ga, 0, none⟩), .agg cs.toArray, .int .i64 (pk.sq : Int)] w6 (SealR RP (.pointer (some ⟨ga, 0, none⟩)) (newY key salt 9) (F6 0) pk (pk.sq : Int) w6)) := Lib.hid (seal15_any (.pointer (some ⟨ga, 0, none⟩)) (newY key salt 9) (F6 0) cs pk (pk.sq : Int) w6 (by have := hA6.1.ob 0 (by omega); rw [hA6.2.1, hA6.2.2.2.2.1] at this; exact this) (HTW.out _ hA6.1.below) HG9.out (HPW.out _ hA6.1.below).2 HFT.out (by have := HSMALL.out; omega) (by have := HSMALL.out; omega) (by have := HSMALL.out; omega) (by omega))
    have HA6 := Lib.hid hA6
    clear hA6
    by_cases hm : mayW pk (pk.sq : Int)
    case neg =>
      have hq : whySeal (newY key salt 9) pk (pk.sq : Int) = 1 := why1 (by show ¬ (9 : Int) ≤ 0; decide) hm
      have HSE1 := Lib.hid (HSE.out.mono (R' := fun e w' => ∃ A n c, e = .returned (.tuple #[.slice A n c, .int .i64 1]) ∧ Below wB.heap.size wB w') (fun e w' k => by
        obtain ⟨A, n, c, F', he, ho, hn, hr, hfr, hF⟩ := k
        rw [hq] at he
        exact ⟨A, n, c, he, HA6.out.1.below.trans (hfr.below (HA6.out.1.lo 0 (by omega)) HA6.out.1.below.size)⟩))
      clear HSE hm hq
      go_wp2_with (first
        | (with_reducible refine wpList_ld rfl 37 (.tmp 5) rfl (w.heap.size + 1) 0 rfl cs RP6.out RT.out ?_)
        | (go_at_call 9; ((with_reducible refine (HSE1.out).mono ?_); rintro e w7 ⟨A7, n7, c7, rfl, hb7⟩; have HB7 := Lib.hid hb7; clear hb7)))
      go_ret
      exact ⟨rfl, HBW.out _ HB7.out⟩
    have hq : whySeal (newY key salt 9) pk (pk.sq : Int) = 0 := why0 (by show ¬ (9 : Int) ≤ 0; decide) hm
    have hXe : X = sealB (newY key salt 9) (wrB pk) (at1 (wrB pk)) pk.so pk.sq := by rw [hX]; unfold outSeal; rw [if_pos hq, Int.toNat_natCast]
    have hSd : Sealed (newY key salt 9) pk pk.sq X := by
      have := sealed_ok (newY key salt 9) pk (pk.sq : Int) hm HFT.out
      rw [Int.toNat_natCast] at this
      rw [hXe]
      exact this
    have HSD := Lib.hid hSd
    have HSE1 := Lib.hid (HSE.out.mono (fun e w' k => k.told hq hX.symm (rfl : ySeal (newY key salt 9) pk (pk.sq : Int) = _)))
    obtain ⟨s1, s2, s3, s4⟩ := sealed_new (y := newY key salt 9) hSd hm.1 HFT.out ⟨rfl, rfl, rfl⟩ (by show ¬ (9 : Int) ≤ 0; decide) rfl
    have hlenX := hSd.len
    have hsmX := hSd.small
    have hbgX := hSd.big
    obtain ⟨L, hLX⟩ : ∃ L, L = X.length := ⟨_, rfl⟩
    have HLX := Lib.hid hLX
    have hL22 : 22 ≤ L ∧ L ≤ 1200 := by omega
    have HO1 : Hid (∀ W p F A c, RP W p (newY key salt 9) F → TabH W → RdS W A L c X → (0 < L → ∀ ad, A = some ad → ¬ F ad.block ∧ ad.block < W.heap.size) → Calls Tryz.prog 12 #[p, .slice A L c] W (OpenT RP p F 0 (pk.sq : Int) pk { newY key salt 9 with used := 1, ws := [(pk.so, [(pk.sq : Int)])] } W)) := Lib.hid (fun W p F A c k1 k2 k3 k4 => (open15_any p _ F A L c X W k1 k2 HG9.out (by show (0 : Int) + 1 ≤ 900; decide) k3 k4).mono (fun e w' k => k.told s1 s2 s3 s4))
    have hg2 : Wy.good { newY key salt 9 with used := 1, ws := [(pk.so, [(pk.sq : Int)])] } := by
      have := good_open HG9.out X (by show (0 : Int) + 1 ≤ 900; decide)
      rw [s4] at this
      exact this
    have s5 := sealed_old (y := { newY key salt 9 with used := 1, ws := [(pk.so, [(pk.sq : Int)])] }) hSd hm.1 HFT.out (by show ¬ (9 : Int) ≤ 1; decide) rfl
    have HO2 : Hid (∀ W p F A c, RP W p { newY key salt 9 with used := 1, ws := [(pk.so, [(pk.sq : Int)])] } F → TabH W → RdS W A L c X → (0 < L → ∀ ad, A = some ad → ¬ F ad.block ∧ ad.block < W.heap.size) → Calls Tryz.prog 12 #[p, .slice A L c] W (fun e w' => ∃ i pk' y', OpenT RP p F 5 i pk' y' W e w')) := Lib.hid (fun W p F A c k1 k2 k3 k4 => (open15_any p _ F A L c X W k1 k2 hg2 (by show (1 : Int) + 1 ≤ 900; decide) k3 k4).mono (fun e w' k => ⟨_, _, _, k.told s5 rfl rfl rfl⟩))
    clear HSE hm hq hXe hSd s1 s2 s3 s4 s5 hg2 hlenX hsmX hbgX hLX hX
    go_upto_region 9 with (first
      | (with_reducible refine wpList_ld rfl 37 (.tmp 5) rfl (w.heap.size + 1) 0 rfl cs RP6.out RT.out ?_)
      | (go_at_call 9; ((with_reducible refine (HSE1.out).mono ?_); rintro e w7 ⟨A7, n7, c7, F7, rfl, ho7, hn7, hr7, hf7, hF7⟩; have en7 : n7 = L := (by rw [HLX.out]; exact (RdS.of_own ho7).len.symm); subst en7; have HT7 := Lib.hid (And.intro ho7 (And.intro hn7 (And.intro hr7 (And.intro hf7 hF7)))); clear ho7 hn7 hr7 hf7 hF7)))
    have hz2 := zero28
    obtain ⟨G7, hG7⟩ := HA6.out.1.sealedO HL.out (i := 0) (by omega) HT7.out.1 HT7.out.2.1 (by rw [HA6.out.2.1]; exact HT7.out.2.2.1) HT7.out.2.2.2.1 HT7.out.2.2.2.2 (newY key salt 9) rfl
    obtain ⟨p7, y7, F7', hA7⟩ : ∃ p y F, Ways (RB pk X) 4 wB p y F w7 ∧ p 1 = .pointer (some ⟨gb, 0, none⟩) ∧ p 2 = .pointer (some ⟨gc, 0, none⟩) ∧ p 3 = .slice A7 n7 c7 ∧ y 1 = newY key salt 9 ∧ y 2 = newY key salt 9 := ⟨_, _, _, hG7, HA6.out.2.2.1, HA6.out.2.2.2.1, rfl, HA6.out.2.2.2.2.2.1, HA6.out.2.2.2.2.2.2⟩
    clear HSE1 RP6 HA6 hG7 HT7 c2
    have HC8 := Lib.hid (HO1.out w7 (.pointer (some ⟨gb, 0, none⟩)) (F7' 1) A7 c7 (by have := hA7.1.ob 1 (by omega); rw [hA7.2.1, hA7.2.2.2.2.1] at this; exact this) (HTW.out _ hA7.1.below) (rown_rd (show ROwn X w7 (.slice A7 n7 c7) (y7 3) (F7' 3) from hA7.2.2.2.1 ▸ hA7.1.ob 3 (by omega))) (hA7.1.offO HL.out (i := 1) (j := 3) (by omega) (by omega) (by decide) hA7.2.2.2.1 rfl))
    have HA7 := Lib.hid hA7
    clear hA7
    go_upto_region 10 with (first
      | (go_at_call 12; ((with_reducible refine (HC8.out).mono ?_); rintro e w8 ⟨cs8, F8, rfl, hp8, hn8, hr8, hf8, hF8⟩; have HT8 := Lib.hid (And.intro hp8 (And.intro hn8 (And.intro hr8 (And.intro hf8 hF8)))); have hI8 := BlkV.new_at w8 w8.heap.size 37 zeroC _ rfl rfl; have HL8 := Lib.hid hp8.len; have HO8 := Lib.hid hp8.one; clear hp8 hn8 hr8 hf8 hF8))
      | ((with_reducible refine wpList_st rfl 37 (.tmp 14) (.tmp 52) rfl w8.heap.size 0 cs8 rfl rfl 37 zeroC hI8 (by rw [HL8.out]; decide) (row11 HL8.out) HO8.out ?_); intro w9 hB9 ho9; rw [splice_all _ _ (by rw [HL8.out]; rfl)] at hB9; have HB9 := Lib.hid hB9; have Hb9 : Hid (Below w8.heap.size w8 w9) := Lib.hid (((Below.refl _ _).alloc (Nat.le_refl _) _).trans (ho9.below (Nat.le_refl _))); clear hB9 ho9))
    obtain ⟨G9, hG9⟩ := HA7.out.1.opened HL.out (i := 1) (by omega) HT8.out.1 HT8.out.2.1 (by rw [HA7.out.2.1]; exact HT8.out.2.2.1) HT8.out.2.2.2.1 HT8.out.2.2.2.2 (newY key salt 9) rfl Hb9.out HB9.out
    obtain ⟨b9, hb9⟩ : ∃ b, b = w8.heap.size := ⟨_, rfl⟩
    rw [← hb9] at hG9 ⊢
    obtain ⟨p9, y9, F9, hA9⟩ : ∃ p y F, Ways (RB pk X) 5 wB p y F w9 ∧ p 1 = .pointer (some ⟨gb, 0, none⟩) ∧ p 2 = .pointer (some ⟨gc, 0, none⟩) ∧ p 3 = .slice A7 n7 c7 ∧ p 4 = .pointer (some ⟨b9, 0, none⟩) ∧ y 1 = { newY key salt 9 with used := 1, ws := [(pk.so, [(pk.sq : Int)])] } ∧ y 2 = newY key salt 9 := ⟨_, _, _, hG9, HA7.out.2.1, HA7.out.2.2.1, HA7.out.2.2.2.1, rfl, rfl, HA7.out.2.2.2.2.2⟩
    clear HC8 HA7 hG9 HT8 hI8 HL8 HO8 HB9 Hb9 hb9 HO1
    have HC10 := Lib.hid (HO2.out w9 (.pointer (some ⟨gb, 0, none⟩)) (F9 1) A7 c7 (by have := hA9.1.ob 1 (by omega); rw [hA9.2.1, hA9.2.2.2.2.2.1] at this; exact this) (HTW.out _ hA9.1.below) (rown_rd (show ROwn X w9 (.slice A7 n7 c7) (y9 3) (F9 3) from hA9.2.2.2.1 ▸ hA9.1.ob 3 (by omega))) (hA9.1.offO HL.out (i := 1) (j := 3) (by omega) (by omega) (by decide) hA9.2.2.2.1 rfl))
    have HA9 := Lib.hid hA9
    clear hA9
    go_upto_region 11 with (first
      | (go_at_call 12; ((with_reducible refine (HC10.out).mono ?_); rintro e w10 ⟨i10, pk10, yy10, cs10, F10, rfl, hp10, hn10, hr10, hf10, hF10⟩; have HT10 := Lib.hid (And.intro hp10 (And.intro hn10 (And.intro hr10 (And.intro hf10 hF10)))); have hI10 := BlkV.new_at w10 w10.heap.size 37 zeroC _ rfl rfl; have HL10 := Lib.hid hp10.len; have HO10 := Lib.hid hp10.one; clear hp10 hn10 hr10 hf10 hF10))
      | ((with_reducible refine wpList_st rfl 37 (.tmp 17) (.tmp 59) rfl w10.heap.size 0 cs10 rfl rfl 37 zeroC hI10 (by rw [HL10.out]; decide) (row11 HL10.out) HO10.out ?_); intro w11 hB11 ho11; have Hb11 : Hid (Below w10.heap.size w10 w11) := Lib.hid (((Below.refl _ _).alloc (Nat.le_refl _) _).trans (ho11.below (Nat.le_refl _))); clear hB11 ho11))
    have hA11' := (HA9.out.1.turn HL.out (i := 1) (by omega) HT10.out.2.2.2.1 (by rw [HA9.out.2.1]; exact HT10.out.2.2.1) HT10.out.2.2.2.2).on HL.out Hb11.out
    obtain ⟨p11, y11, F11, hA11⟩ : ∃ p y F, Ways (RB pk X) 5 wB p y F w11 ∧ p 2 = .pointer (some ⟨gc, 0, none⟩) ∧ p 3 = .slice A7 n7 c7 ∧ p 4 = .pointer (some ⟨b9, 0, none⟩) ∧ y 2 = newY key salt 9 := ⟨_, _, _, hA11', HA9.out.2.2.1, HA9.out.2.2.2.1, HA9.out.2.2.2.2.1, HA9.out.2.2.2.2.2.2⟩
    clear HC10 HA9 hA11' HT10 hI10 HL10 HO10 Hb11 HO2
    obtain ⟨ds, hD11, hQ11⟩ := rbox_open (show RBox pk w11 (.pointer (some ⟨b9, 0, none⟩)) (y11 4) (F11 4) from hA11.2.2.2.1 ▸ hA11.1.ob 4 (by omega))
    have k10 : w11.cell? ⟨w.heap.size + 1, 10, none⟩ = some (.int .u8 (pk.pd : Int)) := ((HPW.out _ hA11.1.below).1.cell 10).trans HPC.out.1
    have e10 : ∃ u, w11.cell? ⟨b9, 10, none⟩ = some u := ⟨_, (hD11.cell 10).trans (pk_cell hQ11).1⟩
    obtain ⟨u10, m10⟩ := e10
    have f10 : w11.frozen? ⟨b9, 10, none⟩ = false := hD11.frozen 10
    have hD12 := hD11.set_ 10 (.int .u8 (pk.pd : Int))
    rw [(pk_cell hQ11).2.2] at hD12
    have hs11 : (w11.setCell ⟨b9, 10, none⟩ (.int .u8 (pk.pd : Int))).heap = w11.heap := by
      apply Array.ext_getElem?
      intro j
      by_cases e : j = b9
      · subst e; exact hD12.trans hD11.symm
      · exact (Only.set w11 b9 10 (.int .u8 (pk.pd : Int))).block j e
    have HWE : Hid (w11.setCell ⟨b9, 10, none⟩ (.int .u8 (pk.pd : Int)) = w11) := Lib.hid (by
      have := hs11
      unfold World.setCell at this ⊢
      cases w11
      simp_all)
    have HSM := Lib.hid (same10_any cs ds pk w11 (HPW.out _ hA11.1.below).2 hQ11)
    have RP11 := Lib.hid ((HPW.out _ hA11.1.below).1.range 0 cs (fun i _ => by rw [Nat.zero_add]))
    have RD11 := Lib.hid (hD11.range 0 ds (fun i _ => by rw [Nat.zero_add]))
    have RDT : Hid (RowTy Tryz.prog 37 ds.length) := Lib.hid (row11 hQ11.len)
    have c2 : w11.cell? ⟨w.heap.size + 1, 2, none⟩ = some (.int .u16 (pk.sq : Int)) := ((HPW.out _ hA11.1.below).1.cell 2).trans HPC.out.2.1
    have HA11 := Lib.hid hA11
    clear hA11 hD11 hQ11 hD12 hs11
    go_upto_region 12 with (fail)
    rw [HWE.out]
    clear HWE k10 m10 f10
    go_upto_region 14 with (first
      | (with_reducible refine wpList_ldg (by with_unfolding_all rfl) 37 (.tmp 5) rfl (w.heap.size + 1) 0 rfl cs RP11.out RT.out ?_)
      | (with_reducible refine wpList_ldg (by with_unfolding_all rfl) 37 (.tmp 14) rfl b9 0 rfl ds RD11.out RDT.out ?_)
      | (go_at_call 14; ((with_reducible refine (HSM.out).mono ?_); rintro e w12 ⟨rfl, hb12⟩; have HA12' := HA11.out.1.on HL.out hb12; clear hb12)))
    have HA12 : Hid (Ways (RB pk X) 4 wB p11 y11 F11 w12) := Lib.hid (HA12'.less (by omega))
    clear HA12' HSM RP11 RD11 RDT c2
    by_cases hf0 : f = 0
    · subst hf0
      go_wp2
      go_ret
      exact ⟨rfl, HBW.out _ HA12.out.below⟩
    have hf0' : ((f : Int) == 0) = false := by simp; omega
    obtain ⟨⟨baseX, hoX⟩, hFX⟩ := rown_open (show ROwn X w12 (.slice A7 n7 c7) (y11 3) (F11 3) from HA11.out.2.2.1 ▸ HA12.out.ob 3 (by omega))
    obtain ⟨gX, hgX, hbX, hcX⟩ := own_at hoX (by omega)
    subst hgX
    obtain ⟨K, hK⟩ : ∃ K, K = a % n7 := ⟨_, rfl⟩
    have hKn : K < n7 := by rw [hK]; exact Nat.mod_lt _ (by omega)
    have hcell := (hcX K hKn).1
    have hfr := (hcX K hKn).2
    have hX2 := own_set hoX (by omega) K (X.getD K 0 ^^^ UInt8.ofNat f)
    have HXO := Lib.hid hX2
    have hxor := flip_xor (X.getD K 0) f hf6
    have HXR := Lib.hid hxor
    obtain ⟨z, hz⟩ : ∃ z : Int, z = ((X.getD K 0).toNat : Int) := ⟨_, rfl⟩
    rw [← hz] at hcell
    have HZ := Lib.hid hz
    have hwv : IntKind.i64.wrap (a : Int) = (a : Int) := IntWalk.i64_in _ (by omega)
    have htm : Int.tmod (a : Int) (n7 : Int) = (K : Int) := by rw [Int.tmod_eq_emod_of_nonneg (by omega), hK]; omega
    have hNb : ((n7 : Int) == 0) = false := by simp; omega
    have hNf : ((n7 : Int) = 0) = False := by simp; omega
    have hNz : (n7 = 0) = False := by simp; omega
    have hwq : IntKind.i64.wrap (K : Int) = (K : Int) := IntWalk.i64_in _ (by omega)
    have hqp : 0 ≤ (K : Int) := by omega
    have hFXe := Lib.hid hFX
    clear hoX hcX hX2 hxor hz hK hFX hbX
    go_upto_region 16 with (fail)
    go_still_tail 17, (by kernel_rfl)
    change wpList _ _ _ _ _ w12.drew
    have HA13 : Hid (Ways (RB pk X) 4 wB p11 y11 F11 w12.drew) := Lib.hid (HA12.out.on HL.out (Below.refl _ _).drew)
    have HX13 : Hid ((w12.drew.setCell ⟨gX, K, none⟩ (.int .u8 (bits BinOp.xor IntKind.u8 z (f : Int)))).ownsRow baseX 5 1 (.slice (some ⟨gX, 0, none⟩) n7 c7) n7 (cells (flipB X K f))) := Lib.hid (by rw [HZ.out, HXR.out]; exact HXO.out)
    clear HA12 HXO
    have hcell13 : w12.drew.cell? ⟨gX, K, none⟩ = _ := hcell
    have hfr13 : w12.drew.frozen? ⟨gX, K, none⟩ = false := hfr
    clear hcell hfr
    generalize w12.drew = w13 at HA13 HX13 hcell13 hfr13 ⊢
    obtain ⟨w14, hw14⟩ : ∃ x, x = w13.setCell ⟨gX, K, none⟩ (.int .u8 (bits BinOp.xor IntKind.u8 z (f : Int))) := ⟨_, rfl⟩
    have hfX : Fr (F11 3) w13 w14 := by rw [hw14]; exact Fr.of_only (Only.set w13 gX K _) (by rw [hFXe.out]; rfl)
    rw [← hw14] at HX13
    have HA14 : Hid (Ways (RB pk (flipB X K f)) 4 wB p11 y11 F11 w14) := Lib.hid (HA13.out.swap HL.out (i := 3) (by omega) (fun j hj => by
      match j, hj with
      | 0, _ => rfl
      | 1, _ => rfl
      | 2, _ => rfl
      | 3, h => exact absurd rfl h
      | _ + 4, _ => rfl) hfX (by rw [HA11.out.2.2.1]; exact ⟨_, _, _, _, rfl, HX13.out, hFXe.out⟩))
    clear HA13 hfX HX13
    go_upto_region 18 with (fail)
    rw [← hw14]
    clear hw14 hcell13 hfr13
    obtain ⟨X2, hX2⟩ : ∃ x, x = flipB X K f := ⟨_, rfl⟩
    have hX2l : X2.length = n7 := by rw [hX2]; unfold flipB; rw [List.length_set]; exact HLX.out.symm
    rw [← hX2] at HA14
    have HL2 := Lib.hid (rb_lone pk X2)
    obtain ⟨N, hN⟩ : ∃ N, n7 = N + 10 := ⟨n7 - 10, by omega⟩
    have HNN := Lib.hid hN
    have eN : (n7 : Int) - 10 = (N : Int) := by omega
    have hr14 := rown_rd (show ROwn X2 w14 (.slice (some ⟨gX, 0, none⟩) n7 c7) (y11 3) (F11 3) from HA11.out.2.2.1 ▸ HA14.out.ob 3 (by omega))
    have hc7 : n7 ≤ c7 := hr14.le
    have hc7m : c7 ≤ 9223372036854775807 := hr14.small.2
    have hNc : N ≤ c7 := by omega
    obtain ⟨AL, eL, eL2, hrl⟩ := run_lo (some ⟨gX, 0, none⟩) n7 c7 N (N : Int) rfl (by omega) hc7 hr14.max
    rw [show n7 - N = 10 by omega] at eL eL2
    have HCV : Hid (∀ wx, RdS wx (some ⟨gX, 0, none⟩) n7 c7 X2 → (convert 35 9 (.slice AL 10 (c7 - N))).run Tryz.prog wx = .ok (.string (txt (X2.drop N))) wx) := Lib.hid (fun wx k => conv_rdA (by have := hrl wx X2 k; rwa [show n7 - N = 10 by omega] at this))
    have HTG : Hid (∀ W, RdS W (some ⟨gX, 0, none⟩) n7 c7 X2 → Calls Tryz.prog 18 #[.agg (cells (newY key salt 1).ks).toArray, .slice (some ⟨gX, 0, none⟩) N c7, .int .i64 0] W fun e w' => ∃ A' c', e = .returned (.slice A' 10 c') ∧ RdS w' A' 10 c' (tagW (newY key salt 9) (X2.take N) 0) ∧ Below W.heap.size W w') := Lib.hid (fun W k => rtag15_any (newY key salt 1) (some ⟨gX, 0, none⟩) N c7 (X2.take N) 0 W (newY_good key salt 1 (by decide)).1 (k.headR N (by omega)) (by omega) (by omega))
    have HK1 : Hid ((cells (newY key salt 1).ks).length = 50) := Lib.hid (by rw [length_cells, Wy.ks_len (newY_good key salt 1 (by decide)).1])
    have HX2L := Lib.hid hX2l
    clear hX2 hrl hr14 hX2l hN
    go_upto_region 18 with (fail)
    refine wp_region_noPanic ?_
    refine wp_region_held (S := fun wx => BlkV wx w.heap.size 25 (cells (mst key salt)) ∧ RdS wx (some ⟨gX, 0, none⟩) n7 c7 X2) (by kernel_rfl) ?_
    change wpAnyH _ _ _ _ _ _ _ _ (World.drew _)
    obtain ⟨w15, hw15⟩ : ∃ x, x = w14.drew := ⟨_, rfl⟩
    rw [← hw15]
    have HA15 : Hid (Ways (RB pk X2) 4 wB p11 y11 F11 w15) := Lib.hid (hw15 ▸ HA14.out.on HL2.out (Below.refl _ _).drew)
    have HRX : Hid (∀ W, Ways (RB pk X2) 4 wB p11 y11 F11 W → BlkV W w.heap.size 25 (cells (mst key salt)) ∧ RdS W (some ⟨gX, 0, none⟩) n7 c7 X2) := Lib.hid (fun W k => ⟨HMW.out _ k.below, rown_rd (show ROwn X2 W (.slice (some ⟨gX, 0, none⟩) n7 c7) (y11 3) (F11 3) from HA11.out.2.2.1 ▸ k.ob 3 (by omega))⟩)
    have hS := HRX.out _ HA15.out
    clear hw15 HA14
    refine wpAnyH_take (i := 0) (v := .agg (cells (mst key salt)).toArray) rfl (by kernel_rfl) (by kernel_rfl) (by kernel_rfl) (fun _ _ _ h => h) (Or.inl ⟨by rfl, fun wz hz => ?_⟩) hS ?_
    · (exact run_ld 25 _ rfl w.heap.size 0 (by rfl) (cells (mst key salt)) (hz.1.range 0 _ (fun i _ => by rw [Nat.zero_add])) RM.out)
    simp only [Act.put, List.getElem_toArray, List.getElem_cons_zero, List.setIfInBounds_toArray, List.set_cons_succ, List.set_cons_zero]
    refine wpAnyH_take (i := 5) (v := ?_) rfl (by kernel_rfl) (by kernel_rfl) (by kernel_rfl) (fun _ _ _ h => h) (Or.inl ⟨by rfl, ?_⟩) hS ?_
    case refine_2 => (intro wz hz; go_simp; with_reducible rfl)
    simp only [Act.put, List.getElem_toArray, List.getElem_cons_succ, List.getElem_cons_zero, List.setIfInBounds_toArray, List.set_cons_succ, List.set_cons_zero]
    refine wpAnyH_take (i := 6) (v := ?_) rfl (by kernel_rfl) (by kernel_rfl) (by kernel_rfl) (fun _ _ _ h => h) (Or.inl ⟨by rfl, ?_⟩) hS ?_
    case refine_2 => (intro wz hz; go_simp; with_reducible rfl)
    simp only [Act.put, List.getElem_toArray, List.getElem_cons_succ, List.getElem_cons_zero, List.setIfInBounds_toArray, List.set_cons_succ, List.set_cons_zero]
    refine wpAnyH_take (i := 7) (v := ?_) rfl (by kernel_rfl) (by kernel_rfl) (by kernel_rfl) (fun _ _ _ h => h) (Or.inl ⟨by rfl, ?_⟩) hS ?_
    case refine_2 => (intro wz hz; go_simp; with_reducible rfl)
    simp only [Act.put, List.getElem_toArray, List.getElem_cons_succ, List.getElem_cons_zero, List.setIfInBounds_toArray, List.set_cons_succ, List.set_cons_zero]
    refine wpAnyH_take (i := 10) (v := ?_) rfl (by kernel_rfl) (by kernel_rfl) (by kernel_rfl) (fun _ _ _ h => h) (Or.inl ⟨by rfl, ?_⟩) hS ?_
    case refine_2 => (intro wz hz; go_simp; with_reducible rfl)
    simp only [Act.put, List.getElem_toArray, List.getElem_cons_succ, List.getElem_cons_zero, List.setIfInBounds_toArray, List.set_cons_succ, List.set_cons_zero]
    refine wpAnyH_take (i := 11) (v := ?_) rfl (by kernel_rfl) (by kernel_rfl) (by kernel_rfl) (fun _ _ _ h => h) (Or.inl ⟨by rfl, ?_⟩) hS ?_
    case refine_2 => (intro wz hz; go_simp; with_reducible rfl)
    simp only [Act.put, List.getElem_toArray, List.getElem_cons_succ, List.getElem_cons_zero, List.setIfInBounds_toArray, List.set_cons_succ, List.set_cons_zero]
    refine wpAnyH_take (i := 12) (v := ?_) rfl (by kernel_rfl) (by kernel_rfl) (by kernel_rfl) (fun _ _ _ h => h) (Or.inl ⟨by rfl, ?_⟩) hS ?_
    case refine_2 => (intro wz hz; go_simp; with_reducible rfl)
    simp only [Act.put, List.getElem_toArray, List.getElem_cons_succ, List.getElem_cons_zero, List.setIfInBounds_toArray, List.set_cons_succ, List.set_cons_zero]
    refine wpAnyH_take (i := 13) (v := ?_) rfl (by kernel_rfl) (by kernel_rfl) (by kernel_rfl) (fun _ _ _ h => h) (Or.inl ⟨by rfl, ?_⟩) hS ?_
    case refine_2 => (intro wz hz; (have hcv := HCV.out wz hz.2); go_simp; with_reducible rfl)
    simp only [Act.put, List.getElem_toArray, List.getElem_cons_succ, List.getElem_cons_zero, List.setIfInBounds_toArray, List.set_cons_succ, List.set_cons_zero]
    refine anyH_one (i := 1) (by kernel_rfl) rfl rfl (fun HH hH => ?_)
    simp only [List.getElem_toArray, List.getElem_cons_succ, List.getElem_cons_zero]
    go_simp
    refine (HR1.out w15).mono ?_
    rintro e w16 ⟨pv, Fv, rfl, hv, lv, hb16⟩
    obtain ⟨gv, nm, ww, rr, vv, hpv, hwv', hfv⟩ := ry_ptr hv
    subst hpv
    have HA16 := Lib.hid (HA15.out.on HL2.out hb16)
    have hS16 := HRX.out _ HA16.out
    have HV16 := Lib.hid hwv'
    refine hH _ _ hS16 ?_
    clear hH hS hv lv hb16 hfv hwv'
    refine wpAnyH_take (i := 2) (v := ?_) rfl (by kernel_rfl) (by kernel_rfl) (by kernel_rfl) (fun _ _ _ h => h) (Or.inl ⟨by rfl, ?_⟩) hS16 ?_
    case refine_2 => (intro wz hz; go_simp; with_reducible rfl)
    simp only [Act.put, List.getElem_toArray, List.getElem_cons_succ, List.getElem_cons_zero, List.setIfInBounds_toArray, List.set_cons_succ, List.set_cons_zero]
    refine wpAnyH_take (i := 3) (v := ?_) rfl (by kernel_rfl) (by kernel_rfl) (by kernel_rfl) (fun _ _ _ h => h) (Or.inl ⟨by rfl, ?_⟩) hS16 ?_
    case refine_2 => (intro wz hz; go_simp; with_reducible rfl)
    simp only [Act.put, List.getElem_toArray, List.getElem_cons_succ, List.getElem_cons_zero, List.setIfInBounds_toArray, List.set_cons_succ, List.set_cons_zero]
    refine anyH_one (i := 4) (by kernel_rfl) rfl rfl (fun HH hH => ?_)
    simp only [List.getElem_toArray, List.getElem_cons_succ, List.getElem_cons_zero]
    refine wp_ld 49 _ rfl gv 0 (by rfl) (cells (newY key salt 1).ks) (HV16.out.b.range 0 _ (fun i hi => by rw [Nat.zero_add]; exact List.getElem?_append_left hi)) (row50 HK1.out) ?_
    refine hH _ _ hS16 ?_
    clear hH
    refine anyH_one (i := 8) (by kernel_rfl) rfl rfl (fun HH hH => ?_)
    simp only [List.getElem_toArray, List.getElem_cons_succ, List.getElem_cons_zero]
    go_simp
    refine (HTG.out w16 hS16.2).mono ?_
    rintro e w17 ⟨A17, c17, rfl, hr17, hb17⟩
    have HA17 := Lib.hid (HA16.out.on HL2.out hb17)
    have hS17 := HRX.out _ HA17.out
    have hc17 := conv_rdA hr17
    refine hH _ _ hS17 ?_
    clear hH hb17 hS16 hr17
    refine anyH_one (i := 9) (by kernel_rfl) rfl rfl (fun HH hH => ?_)
    simp only [List.getElem_toArray, List.getElem_cons_succ, List.getElem_cons_zero]
    go_simp
    refine hH _ _ hS17 ?_
    clear hH hc17
    refine wpAnyH_take (i := 14) (v := ?_) rfl (by kernel_rfl) (by kernel_rfl) (by kernel_rfl) (fun _ _ _ h => h) (Or.inl ⟨by rfl, ?_⟩) hS17 ?_
    case refine_2 => (intro wz hz; go_simp; with_reducible rfl)
    simp only [Act.put, List.getElem_toArray, List.getElem_cons_succ, List.getElem_cons_zero, List.setIfInBounds_toArray, List.set_cons_succ, List.set_cons_zero]
    refine wpAnyH_done (by kernel_rfl) ?_ _
    refine NoPanic.normal ?_
    clear HA15 HA16 HV16 hS17 HTG HCV eL eL2 HR1
    by_cases hT : tagW (newY key salt 9) (X2.take N) 0 = X2.drop N
    · have hTe : ((txt (tagW (newY key salt 9) (X2.take N) 0)).toList == (txt (X2.drop N)).toList) = true := by rw [txt_toList, txt_toList, hT]; exact beq_self_eq_true _
      simp only [hTe]
      clear hTe hT
      go_wp2
      go_ret
      exact ⟨rfl, HBW.out _ HA17.out.below⟩
    have hTe : ((txt (tagW (newY key salt 9) (X2.take N) 0)).toList == (txt (X2.drop N)).toList) = false := by rw [txt_toList, txt_toList]; exact beq_eq_false_iff_ne.2 hT
    simp only [hTe]
    have hna := new_auth (y := newY key salt 9) (X := X2) rfl (by rw [HX2L.out, HNN.out, Nat.add_sub_cancel]; exact hT)
    obtain ⟨q, hq⟩ : ∃ q, q = codeO (newY key salt 9) X2 := ⟨_, rfl⟩
    rw [← hq] at hna
    have HC18 := Lib.hid ((open15_any (.pointer (some ⟨gc, 0, none⟩)) (newY key salt 9) (F11 2) (some ⟨gX, 0, none⟩) n7 c7 X2 w17 (by have := HA17.out.ob 2 (by omega); rw [HA11.out.2.1, HA11.out.2.2.2.2] at this; exact this) (HTW.out _ HA17.out.below) HG9.out (by show (0 : Int) + 1 ≤ 900; decide) (HRX.out _ HA17.out).2 (HA17.out.offO HL2.out (i := 2) (j := 3) (by omega) (by omega) (by decide) HA11.out.2.2.1 rfl)).mono (fun e w' k => (⟨_, _, k.told hq.symm rfl rfl hna.2⟩ : ∃ i pk', OpenT RP (.pointer (some ⟨gc, 0, none⟩)) (F11 2) q i pk' (newY key salt 9) w17 e w')))
    have hqn : (q == 0) = false := by simpa using hna.1
    have hqn2 : (q = 0) = False := by simpa using hna.1
    have hqn3 : (q != 0) = true := by simpa using hna.1
    clear hTe hT hna hq
    go_upto_region 21 with (first
      | (go_at_call 12; ((with_reducible refine (HC18.out).mono ?_); rintro e w18 ⟨i18, pk18, cs18, F18, rfl, hp18, hn18, hr18, hf18, hF18⟩; have HT18 := Lib.hid (And.intro hr18 hf18); have hI18 := BlkV.new_at w18 w18.heap.size 37 zeroC _ rfl rfl; have HL18 := Lib.hid hp18.len; have HO18 := Lib.hid hp18.one; clear hp18 hn18 hr18 hf18 hF18))
      | ((with_reducible refine wpList_st rfl 37 (.tmp 21) (.tmp 125) rfl w18.heap.size 0 cs18 rfl rfl 37 zeroC hI18 (by rw [HL18.out]; decide) (row11 HL18.out) HO18.out ?_); intro w19 hB19 ho19; have Hb19 : Hid (Below w18.heap.size w18 w19) := Lib.hid (((Below.refl _ _).alloc (Nat.le_refl _) _).trans (ho19.below (Nat.le_refl _))); clear hB19 ho19))
    obtain ⟨g19, bb19, hpp, hw19, _⟩ := rp_ptr (rp_lone.below HT18.out.1 Hb19.out)
    injection hpp with hpp
    injection hpp with hpp
    injection hpp with hpp _ _
    subst hpp
    have HUS : Hid (Calls Tryz.prog 11 #[.pointer (some ⟨gc, 0, none⟩)] w19 fun e w' => e = .returned (.int .i64 0) ∧ w19 = w') := Lib.hid (used15_any gc bb19 (newY key salt 9) w19 hw19 HG9.out.1)
    have HB19 := Lib.hid ((HA17.out.below.trans (HT18.out.2.below (HA17.out.lo 2 (by omega)) HA17.out.below.size)).trans (Hb19.out.mono (by
      have h1 := HA17.out.below.size
      have h2 := HT18.out.2.size
      omega)))
    clear hw19 HT18
    go_wp2_with (go_at_call 11; ((with_reducible refine (HUS.out).mono ?_); rintro e w' ⟨rfl, rfl⟩))
    go_ret
    exact ⟨rfl, HBW.out _ HB19.out⟩
end Go.Proofs.YtmkeioeodlidgaaGreatDoor
