/- The law's examples of layer 11 (tenaillelaw11). No statement is proved here. -/
import Derived.Test.YtacaempcbdekaaaDoorRtcp9
import Derived.Test.YtacaempcbdekaaaDoorRtcpLosses
import Derived.Test.YtacaempcbdekaaaDoorRtcpP2
namespace Go.Proofs.YtacaempcbdekaaaDoor
open Go.RowKit
set_option linter.unusedVariables false

theorem flat13 : ∀ (css : List (List Value)) (i d : Nat), (∀ cs ∈ css, cs.length = 13) → d < 13 → css.flatten[i * 13 + d]? = (css[i]?).bind (·[d]?)
  | [], i, d, _, _ => by simp
  | cs :: r, 0, d, h, hd => by
    have h1 := h cs (by simp)
    simp only [List.flatten_cons, Nat.zero_mul, Nat.zero_add, List.getElem?_cons_zero, Option.bind_some]
    rw [List.getElem?_append_left (by omega)]
  | cs :: r, i + 1, d, h, hd => by
    have h1 := h cs (by simp)
    have ih := flat13 r i d (fun c hc => h c (by simp [hc])) hd
    simp only [List.flatten_cons, List.getElem?_cons_succ]
    rw [List.getElem?_append_right (by omega), ← ih]
    congr 1
    omega
/-- A packet among packets of the call's own, its cells. -/
theorem OwnCs.at {w : World} {b n c : Nat} {A : Option Addr} {l : List Ctl} (h : OwnCs w b (.slice A n c) l) (hn : l.length = n) {i : Nat} (hi : i < l.length) : ∃ g cs, A = some ⟨g, 0, none⟩ ∧ b ≤ g ∧ OwnC w b cs l[i] ∧ ∀ d, d < 13 → w.cell? ⟨g, i * 13 + d, none⟩ = cs[d]? := by
  subst hn
  obtain ⟨css, h1, h2, h3⟩ := h
  have hic : i < css.length := by omega
  have hown := h3 i css[i] l[i] (List.getElem?_eq_getElem hic) (List.getElem?_eq_getElem hi)
  have hl : ∀ cs ∈ css, cs.length = 13 := by
    intro cs hcs
    obtain ⟨j, hj, rfl⟩ := List.mem_iff_getElem.1 hcs
    exact (h3 j css[j] (l[j]'(by omega)) (List.getElem?_eq_getElem hj) (List.getElem?_eq_getElem _)).len
  rcases h1.2 with ⟨_, h0⟩ | ⟨g, cap, cur, hv, hb, _⟩
  · omega
  · injection hv with e1 e2 e3
    subst e1; subst e3
    refine ⟨g, css[i], rfl, hb, hown, fun d hd => ?_⟩
    rw [h1.cellAt (i * 13 + d) (by omega), flat13 css i d hl hd, List.getElem?_eq_getElem hic]
    rfl

def exB : List UInt8 := [129, 201, 0, 7] ++ List.replicate 28 0
def exR : Rep := ⟨0, 0, 0, 0, 0, 0, 0⟩
theorem exB_drop : exB.drop 4 = bRR 0 [exR] := by decide +kernel
theorem exB_num : numb ((exB.drop 2).take 2) = 7 := by decide +kernel
theorem exB_len : exB.length = 32 := by decide +kernel
theorem bodyRR (so : Nat) (L : List Rep) (hso : so < 4294967296) (h16 : L.length ≤ 16) (hL : ∀ x ∈ L, x.fit ∧ x.ok) : BodyIs 57 L.length (bRR so L) (mkRR 0 so L) :=
  ⟨rfl, fun g w h => received_any g L.length so L w hso hL rfl h16 h⟩
theorem exPacket : PacketIs exB (mkRR 201 0 [exR]) := by
  refine ⟨⟨7, exB_num, by rw [exB_len]⟩, fun A n cc w ht hw hr => ?_⟩
  have hn := hr.len
  rw [exB_len] at hn
  have hB : BodyIs 57 1 (exB.drop 4) (mkRR 0 0 [exR]) := by
    rw [exB_drop]
    exact bodyRR 0 [exR] (by decide) (by decide) (fun x hx => by simp at hx; subst hx; unfold Rep.fit Rep.ok exR; decide)
  exact packet_received A n cc 1 201 exB (mkRR 0 0 [exR]) w ht hw hr (by omega) (by omega) (by omega) (by decide +kernel) (by decide +kernel) (by decide +kernel) hB
theorem rdl_one (w : World) : RdL (w.alloc (.cells #[.int .u16 5, .int .u16 5] 41)) (some ⟨w.heap.size, 0, none⟩) 1 [(5, 5)] := by
  have hB : BlkV (w.alloc (.cells #[.int .u16 5, .int .u16 5] 41)) w.heap.size 41 [.int .u16 5, .int .u16 5] := BlkV.new _ _ _
  refine ⟨rfl, by omega, by simp, fun _ => ⟨w.heap.size, 0, rfl, hB.lt, fun j hj => ?_⟩⟩
  obtain rfl : j = 0 := by omega
  exact ⟨(hB.cell 0).trans rfl, (hB.cell 1).trans rfl⟩
theorem rdh_three (w : World) : RdH (w.alloc (.cells #[.int .u16 5, .int .u16 6, .int .u16 8] 39)) (some ⟨w.heap.size, 0, none⟩) 3 [5, 6, 8] := by
  have hB : BlkV (w.alloc (.cells #[.int .u16 5, .int .u16 6, .int .u16 8] 39)) w.heap.size 39 [.int .u16 5, .int .u16 6, .int .u16 8] := BlkV.new _ _ _
  refine ⟨rfl, by omega, by simp, fun _ => ⟨w.heap.size, 0, rfl, hB.lt, fun j hj => ?_⟩⟩
  rw [Nat.zero_add]
  match j, hj with
  | 0, _ => exact (hB.cell 0).trans rfl
  | 1, _ => exact (hB.cell 1).trans rfl
  | 2, _ => exact (hB.cell 2).trans rfl
def Z32 : List UInt8 := List.replicate 32 0
abbrev exA : Array Value := ((((cells Z32).set 0 (.int .u8 129)).set 1 (.int .u8 201)).set 3 (.int .u8 7)).toArray
theorem exA_is : exA = (cells exB).toArray := by kernel_rfl
theorem ex_nk : nkL [(5, 5)] = [5, 6, 8] := by decide +kernel
theorem ex_ls : lsL [5, 6, 8] = [(5, 5)] := by decide +kernel

theorem own_blockN {w : World} {base s : Nat} {e : TypeId} {A : Option Addr} {n c : Nat} {xs : List Value} (h : w.ownsRow base e s (.slice A n c) n xs) (hn : 0 < n) : ∃ g, A = some ⟨g, 0, none⟩ ∧ base ≤ g := by
  rcases h.2 with ⟨_, h0⟩ | ⟨g, cap, cur, hv, hb, _⟩
  · omega
  · injection hv with h1 _ _
    exact ⟨g, h1, hb⟩
theorem ex_nacked (w : World) : Calls Tryd.prog 14 #[.slice (some ⟨w.heap.size, 0, none⟩) 1 1] (w.alloc (.cells #[.int .u16 5, .int .u16 5] 41)) fun e w' => ∃ g c, e = .returned (.slice (some ⟨g, 0, none⟩) 3 c) ∧ (∀ wx, Below w'.heap.size w' wx → wx.cell? ⟨g, 1, none⟩ = some (.int .u16 6) ∧ wx.cell? ⟨g, 2, none⟩ = some (.int .u16 8)) ∧ Below w.heap.size w w' := by
  refine (nacked_any _ 1 1 [(5, 5)] _ (rdl_one w) (by omega)).mono ?_
  rintro e w' ⟨A, c, rfl, ho, hb⟩
  rw [ex_nk] at ho
  obtain ⟨g, rfl, hg⟩ := own_blockN ho (by decide)
  rw [ex_nk]
  have l1 : w'.cell? ⟨g, 1, none⟩ = some (.int .u16 6) := (ho.cellAt 1 (by decide)).trans rfl
  have l2 : w'.cell? ⟨g, 2, none⟩ = some (.int .u16 8) := (ho.cellAt 2 (by decide)).trans rfl
  exact ⟨g, c, rfl, fun wx hx => ⟨(hx.cell (p := ⟨g, 1, none⟩) (World.block_lt_of_cell? w' ⟨g, 1, none⟩ l1)).trans l1, (hx.cell (p := ⟨g, 2, none⟩) (World.block_lt_of_cell? w' ⟨g, 2, none⟩ l2)).trans l2⟩, ((Below.refl _ _).alloc (Nat.le_refl _) _).trans (hb.mono (by simp))⟩
theorem ex_losses (w : World) : Calls Tryd.prog 16 #[.slice (some ⟨w.heap.size, 0, none⟩) 3 3] (w.alloc (.cells #[.int .u16 5, .int .u16 6, .int .u16 8] 39)) fun e w' => ∃ g c, e = .returned (.slice (some ⟨g, 0, none⟩) 1 c) ∧ w'.cell? ⟨g, 0, none⟩ = some (.int .u16 5) ∧ w'.cell? ⟨g, 1, none⟩ = some (.int .u16 5) ∧ Below w.heap.size w w' := by
  refine (losses_any _ 3 3 [5, 6, 8] _ (rdh_three w) (by omega)).mono ?_
  rintro e w' ⟨A, c, rfl, ho, hb⟩
  rw [ex_ls] at ho
  obtain ⟨g, rfl, hg⟩ := own_block2 ho (by decide)
  rw [ex_ls]
  exact ⟨g, c, rfl, (ho.cellAt 0 (by decide)).trans rfl, (ho.cellAt 1 (by decide)).trans rfl, ((Below.refl _ _).alloc (Nat.le_refl _) _).trans (hb.mono (by simp))⟩

set_option maxRecDepth 100000 in
set_option maxHeartbeats 1000000 in
theorem alive_any (w : World) (ht : Tab w) (hw : 0 < w.heap.size) : Calls Tryd.prog 6 #[] w fun e w' => e = .returned (.bool true) ∧ Below w.heap.size w w' := by
  have hmk : ∀ wx : World, (Instr.makeSlice 25 (.int .i64 32) (.int .i64 32)).run Tryd.prog wx = .ok (.slice (some ⟨wx.heap.size, 0, none⟩) 32 32) (wx.alloc (.cells (cells Z32).toArray 5)) := fun wx => run_makeB Tryd.underlying25 u8_info .i64 .i64 32 32 32 rfl rfl (by omega) wx
  have B0 : Blk (w.alloc (.cells (cells Z32).toArray 5)) w.heap.size 5 Z32 := Blk.new _ _ _
  have B1 : Blk ((w.alloc (.cells (cells Z32).toArray 5)).setCell ⟨w.heap.size, 0, none⟩ (.int .u8 129)) w.heap.size 5 (Z32.set 0 129) := B0.set_ 0 129
  have B2 : Blk (((w.alloc (.cells (cells Z32).toArray 5)).setCell ⟨w.heap.size, 0, none⟩ (.int .u8 129)).setCell ⟨w.heap.size, 1, none⟩ (.int .u8 201)) w.heap.size 5 ((Z32.set 0 129).set 1 201) := B1.set_ 1 201
  have b3 : Below w.heap.size w (w.alloc (.cells exA 5)) := (Below.refl _ _).alloc (Nat.le_refl _) _
  have B3 : Blk (w.alloc (.cells exA 5)) w.heap.size 5 exB := Blk.new_at _ _ _ _ _ rfl exA_is
  have c0 : (w.alloc (.cells (cells Z32).toArray 5)).cell? ⟨w.heap.size, 0, none⟩ = some (.int .u8 0) := B0.cell (j := 0) (by decide)
  have c1 : ((w.alloc (.cells (cells Z32).toArray 5)).setCell ⟨w.heap.size, 0, none⟩ (.int .u8 129)).cell? ⟨w.heap.size, 1, none⟩ = some (.int .u8 0) := B1.cell (j := 1) (by decide)
  have c3 : (((w.alloc (.cells (cells Z32).toArray 5)).setCell ⟨w.heap.size, 0, none⟩ (.int .u8 129)).setCell ⟨w.heap.size, 1, none⟩ (.int .u8 201)).cell? ⟨w.heap.size, 3, none⟩ = some (.int .u8 0) := B2.cell (j := 3) (by decide)
  have f0 := B0.frozen 0
  have f1 := B1.frozen 1
  have f3 := B2.frozen 3
  have CR := Lib.hid (read_ok [(exB, mkRR 201 0 [exR])] (some ⟨w.heap.size, 0, none⟩) 32 32 1 _ (ht.below b3 hw) (Nat.lt_of_lt_of_le hw b3.size) rfl (by omega) (by omega) (fun p hp => by simp at hp; subst hp; exact exPacket) (by omega) (by
    rw [show [(exB, mkRR 201 0 [exR])].flatMap (·.1) = exB by simp]
    exact B3.rd (by decide +kernel) (by omega) (by simp [maxLen])))
  have B3' := Lib.hid b3
  clear B0 B1 B2 B3 b3 ht
  go_enter Tryd.func6, Tryd.ntmps6
  go_wp2_with (first
    | (go_at_call 10; ((with_reducible refine (Hid.out CR).mono ?_); rintro e w4 ⟨A4, d4, rfl, ho4, hb4⟩; obtain ⟨g4, cs4, rfl, hg4, hc4, hcell⟩ := ho4.at rfl (i := 0) (by decide); obtain ⟨R1, r1, R2, r2, R3, r3, R4, r4, R5, r5, hcs, _⟩ := hc4; subst hcs; have x0 : Hid (∀ wx, Below w4.heap.size w4 wx → wx.cell? ⟨g4, 0, none⟩ = some (.int .i64 201)) := Lib.hid (fun wx hb => (hb.cell (p := ⟨g4, 0, none⟩) (World.block_lt_of_cell? w4 ⟨g4, 0, none⟩ (hcell 0 (by omega)))).trans (hcell 0 (by omega))); have x7 : Hid (∀ wx, Below w4.heap.size w4 wx → wx.cell? ⟨g4, 7, none⟩ = some (.slice R1 1 r1)) := Lib.hid (fun wx hb => (hb.cell (p := ⟨g4, 7, none⟩) (World.block_lt_of_cell? w4 ⟨g4, 7, none⟩ (hcell 7 (by omega)))).trans (hcell 7 (by omega))); have b4 := Lib.hid (B3'.out.trans (hb4.mono B3'.out.size)); have hsz4 := b4.out.size; clear hb4 ho4 hcell))
    | (go_at_call 14; ((with_reducible refine (ex_nacked w4).mono ?_); rintro e w5 ⟨g5, d5, rfl, hx5, hb5⟩; have x5 := Lib.hid hx5; have b45 := Lib.hid hb5; clear hb5 hx5))
    | (go_at_call 16; ((with_reducible refine (ex_losses w5).mono ?_); rintro e w6 ⟨g6, d6, rfl, y0, y1, hb6⟩; have b56 := Lib.hid hb6; have b46 : Hid (Below w4.heap.size w4 w6) := Lib.hid (b45.out.trans (hb6.mono b45.out.size)); have z0 := x0.out w6 b46.out; have z7 := x7.out w6 b46.out; obtain ⟨z1, z2⟩ := x5.out w6 hb6; clear hb6)))
  go_ret
  exact ⟨rfl, b4.out.trans (b46.out.mono b4.out.size)⟩
end Go.Proofs.YtacaempcbdekaaaDoor
