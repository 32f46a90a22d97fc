/- Several texts in one: The program's way of layer 15 (package srtp's Way) as an object with blocks of its own. What the document's answers for layer 2 (tenailleref02) answer: contracts that the proofs of the statements use. Contracts of package rtp: the pieces of Write. No statement is proved here. -/
import Derived.Test.YtmkeioeodlidgaaDoorZM17
import Derived.Test.YtmkeioeodlidgaaDoorZM21
import Derived.Test.YtmkeioeodlidgaaDoorZM16
import Derived.Test.YtmkeioeodlidgaaDoorZM5
import Derived.Test.YtmkeioeodlidgaaDoorZM20
import Derived.BigQuiet
import Derived.Deep.RegionLaw
import Derived.Test.YtmkeioeodlidgaaDoorZM15
import Derived.Deep.RegionHeld3
namespace Go.Proofs.YtmkeioeodlidgaaDoor
open Go.RowKit
set_option linter.unusedVariables false

/-- Block g is the program's way y, its windows stand in the map b. -/
structure PWay (w : World) (g b : Nat) (y : Wy) : Prop where
  bk : BlkV w g 62 (cells y.ks ++ [.int .i64 y.limit, .int .i64 y.used, .map (some b)])
  m : MapW w b y.ws
/-- The program's way, as an object. -/
def RP (w : World) (p : Value) (y : Wy) (F : Nat → Prop) : Prop := ∃ g b, p = .pointer (some ⟨g, 0, none⟩) ∧ PWay w g b y ∧ F = fun k => k = g ∨ k = b
section
variable {w w2 : World} {g b : Nat} {y : Wy}
theorem PWay.ne (h : PWay w g b y) : b ≠ g := map_blk h.m h.bk
theorem PWay.stay (h : PWay w g b y) (hg : w2.heap[g]? = w.heap[g]?) (hb : w2.heap[b]? = w.heap[b]?) : PWay w2 g b y := ⟨hg.trans h.bk, h.m.stay hb⟩
theorem PWay.below (h : PWay w g b y) (hb : Below w.heap.size w w2) : PWay w2 g b y := h.stay (hb.block g h.bk.lt) (hb.block b h.m.lt)
theorem rp_lone : Lone RP where
  low := by
    rintro w p s F ⟨g, b, rfl, h, rfl⟩ k hk
    rcases hk with rfl | rfl
    · exact h.bk.lt
    · exact h.m.lt
  stay := by
    rintro w w2 p s F ⟨g, b, rfl, h, rfl⟩ _ hs
    exact ⟨g, b, rfl, h.stay (hs g (.inl rfl)) (hs b (.inr rfl)), rfl⟩
theorem rp_ptr {p : Value} {F : Nat → Prop} (h : RP w p y F) : ∃ g b, p = .pointer (some ⟨g, 0, none⟩) ∧ PWay w g b y ∧ F = fun k => k = g ∨ k = b := h
theorem PWay.cells_ (h : PWay w g b y) (hf : y.fit) : w.cell? ⟨g, 50, none⟩ = some (.int .i64 y.limit) ∧ w.cell? ⟨g, 51, none⟩ = some (.int .i64 y.used) ∧ w.cell? ⟨g, 52, none⟩ = some (.map (some b)) := by
  have hl : (cells y.ks).length = 50 := by rw [length_cells, Wy.ks_len hf]
  refine ⟨(h.bk.cell 50).trans ?_, (h.bk.cell 51).trans ?_, (h.bk.cell 52).trans ?_⟩ <;>
    (rw [List.getElem?_append_right (by omega), hl]; rfl)
theorem PWay.cell_ks (h : PWay w g b y) (hf : y.fit) (i : Nat) (hi : i < 50) : w.cell? ⟨g, i, none⟩ = (cells y.ks)[i]? := by
  rw [h.bk.cell, List.getElem?_append_left (by rw [length_cells, Wy.ks_len hf]; exact hi)]
theorem PWay.used (h : PWay w g b y) (hf : y.fit) (u : Int) : PWay (w.setCell ⟨g, 51, none⟩ (.int .i64 u)) g b { y with used := u } := by
  have hl : (cells y.ks).length = 50 := by rw [length_cells, Wy.ks_len hf]
  have hB := h.bk.set_ 51 (.int .i64 u)
  rw [List.set_append_right _ _ (by omega), hl] at hB
  exact ⟨hB, h.m.stay ((Only.set w g 51 (.int .i64 u)).block b h.ne)⟩
theorem PWay.marked (h : PWay w g b y) {ws2 : List (Nat × List Int)} (hm : MapW w2 b ws2) (ho : Only b w w2) : PWay w2 g b { y with ws := ws2 } :=
  ⟨h.bk.only ho h.ne.symm, hm⟩
/-- A way's tag key reads. -/
theorem PWay.auth (h : PWay w g b y) (hf : y.fit) : RdS w (some ⟨g, 16, none⟩) 20 20 y.auth := by
  have := rd_auth hf (o := 0) h.bk (fun i hi => by rw [Nat.zero_add, List.getElem?_append_left (by rw [length_cells, Wy.ks_len hf]; exact hi)])
  simpa using this
end
end Go.Proofs.YtmkeioeodlidgaaDoor

namespace Go.Proofs.YtmkeioeodlidgaaDoor
open Go.RowKit
set_option linter.unusedVariables false

theorem likely_of (h s z : Int) (hh : 0 ≤ h) (hs : 0 ≤ s) (hs' : s ≤ 65535) (h1 : h - 32767 ≤ z) (h2 : z ≤ h + 32768) (hz : z % 65536 = s) : likely h s = if z < 0 then z + 65536 else z := by
  unfold likely aheadZ
  split
  · omega
  · split <;> split <;> omega

end Go.Proofs.YtmkeioeodlidgaaDoor

namespace Go.Proofs.YtmkeioeodlidgaaDoor
open Go.RowKit
set_option linter.unusedVariables false

def bN (b : Bool) : Nat := if b then 1 else 0
theorem bit_any (b : Bool) (w : World) : Calls Tryd.prog 30 #[.bool b] w fun e w' => e = .returned (.int .u64 (bN b : Nat)) ∧ w = w' := by
  cases b
  · go_enter Tryd.func30, Tryd.ntmps30
    go_wp2
    go_ret
    exact ⟨rfl, rfl⟩
  · go_enter Tryd.func30, Tryd.ntmps30
    go_wp2
    go_ret
    exact ⟨rfl, rfl⟩

theorem pad_set (n : Nat) (h : 0 < n) : (List.replicate n (0 : UInt8)).set (n - 1) (UInt8.ofNat n) = padB n := by
  obtain ⟨m, rfl⟩ : ∃ m, n = m + 1 := ⟨n - 1, by omega⟩
  unfold padB
  rw [if_neg (by omega), Nat.add_sub_cancel, List.replicate_succ']
  rw [List.set_append_right _ _ (by simp)]
  simp

theorem padding_any (n : Nat) (w : World) (hn : n < 256) : Calls Tryd.prog 31 #[.int .u8 (n : Int)] w fun e w' => ∃ A c, e = .returned (.slice A n c) ∧ RdS w' A n c (padB n) ∧ Below w.heap.size w w' := by
  by_cases h : n = 0
  · subst h
    have hmk := run_makeB (P := Tryd.prog) Tryd.underlying22 u8_info .u8 .u8 0 0 0 rfl rfl (by omega)
    change (∀ w : World, (Instr.makeSlice 22 (.int .u8 0) (.int .u8 0)).run Tryd.prog w = .ok (.slice (some ⟨w.heap.size, 0, none⟩) 0 0) (w.alloc (.cells #[] 5))) at hmk
    have hb : Hid (Below w.heap.size w (w.alloc (.cells #[] 5))) := Lib.hid ((Below.refl _ _).alloc (Nat.le_refl _) _)
    have HB : Hid (Blk (w.alloc (.cells #[] 5)) w.heap.size 5 []) := Lib.hid (Blk.new w _ [])
    change Calls Tryd.prog 31 #[.int .u8 0] w _
    go_enter Tryd.func31, Tryd.ntmps31
    go_wp2
    go_ret
    exact ⟨_, _, rfl, HB.out.rd rfl (Nat.le_refl _) (by simp [maxLen]), hb.out⟩
  · have hmk := run_makeB (P := Tryd.prog) Tryd.underlying22 u8_info .u8 .u8 (n : Int) (n : Int) n rfl rfl (by omega)
    have hB := Blk.new w 5 (List.replicate n 0)
    have hc := hB.cell (j := n - 1) (by simp; omega)
    have hf := hB.frozen (n - 1)
    have e3 : ((n : Int) - 1) = ((n - 1 : Nat) : Int) := by omega
    have hun : ((UInt8.ofNat n).toNat : Int) = (n : Int) := by rw [UInt8.toNat_ofNat']; omega
    have hst : Hid ((cells (List.replicate n 0)).set (n - 1) (.int .u8 (n : Int)) = cells (padB n)) := Lib.hid (by
      rw [← pad_set n (by omega), ← cells_set, hun])
    have h0 : 0 < n := by omega
    obtain ⟨v, hv⟩ : ∃ v : Value, v = .int .u8 (((List.replicate n (0 : UInt8)).getD (n - 1) 0).toNat : Int) := ⟨_, rfl⟩
    rw [← hv] at hc
    clear hB hv hun h
    go_enter Tryd.func31, Tryd.ntmps31
    go_wp2
    rw [hst.out]
    go_ret
    exact ⟨_, _, rfl, (Blk.new w _ (padB n)).rd (padB_len n) (Nat.le_refl _) (by simp [maxLen]; omega), (Below.refl _ _).alloc (Nat.le_refl _) _⟩

/-- One operation alone may come up, under what is held. -/
theorem anyH_oneR {P : Program} {md : Region.Mode} {ops : Array Oper} {Q : Exit → Act → World → Prop} {S : World → Prop} {i : Nat} {op : Oper} {fuel : Nat} {listed : Array Bool} {a : Act} {w : World} (hr : Region.ready md ops listed = [i]) (ho : ops[i]? = some op) (hgd : op.guard = none)
    (h : ∀ K : Act → World → Prop, (∀ a w, S w → wpAnyH P md ops Q S fuel (listed.setIfInBounds i true) a w → K a w) → op.wp P a w K Q) : wpAnyH P md ops Q S (fuel + 1) listed a w :=
  anyH_oneG hr ho (by simp [Region.wanted, hgd]) h

theorem hd_eq (p : Pkt) : hdN' p = hdN p := rfl
set_option maxRecDepth 100000 in
set_option maxHeartbeats 1000000 in
/-- Where all is well but perhaps the whole length. -/
theorem may_core (cs : List Value) (p : Pkt) (t : Bool) (w : World) (h : PkRd w cs p) (m1 : p.ty ≤ 127) (m2 : p.ot.length ≤ 15) (m3 : p.x = true ∨ (p.xt.length = 0 ∧ p.pf = 0)) (m4 : p.xt.length % 4 = 0) (m5 : p.xt.length ≤ 1020) (m6 : decide (hdN' p + p.pl.length + p.pd ≤ 1200) = t) (hp : p.pl.length ≤ 1000000) (hpd : p.pd < 256) :
    Calls Tryd.prog 28 #[.agg cs.toArray] w fun e w' => e = .returned (.bool t) ∧ Below w.heap.size w w' := by
  have m7 : hdN' p ≤ 1200 := by unfold hdN'; split <;> omega
  have HS := Lib.hid (fun wx hx => size_any cs p wx hx (by omega) (by omega))
  have HP := Lib.hid h
  have hlen := Lib.hid h.len
  have hone := Lib.hid h.one
  obtain ⟨A1, a1, B1, b1, D1, d1, e1, u1, x1, y1⟩ := h
  obtain ⟨H, hH⟩ : ∃ H, H = hdN p := ⟨_, rfl⟩
  rw [hd_eq, ← hH] at m6 m7
  rw [← hH] at HS
  obtain ⟨PK, hPK⟩ : ∃ PK : {q : Pkt // q = p}, PK.val = p := ⟨⟨p, rfl⟩, rfl⟩
  rw [← hPK] at HP
  simp only [← hPK] at HS
  obtain ⟨m, ty, sq, st, so, U, x, pf, X, Y, pd⟩ := p
  simp only at m1 m2 m3 m4 m5 m6 hp hpd e1
  have HW : Hid (Below w.heap.size w (w.alloc (.cells cs.toArray 40))) := Lib.hid ((Below.refl _ _).alloc (Nat.le_refl _) _)
  have hB := BlkV.new w 40 cs
  have HB := Lib.hid hB
  have HP2 := Lib.hid (HP.out.below HW.out)
  have k1 : (w.alloc (.cells cs.toArray 40)).cell? ⟨w.heap.size, 1, none⟩ = some (.int .u8 (ty : Int)) := by rw [hB.cell, e1]; rfl
  have k5 : (w.alloc (.cells cs.toArray 40)).cell? ⟨w.heap.size, 5, none⟩ = some (.slice A1 U.length a1) := by rw [hB.cell, e1]; rfl
  have k6 : (w.alloc (.cells cs.toArray 40)).cell? ⟨w.heap.size, 6, none⟩ = some (.bool x) := by rw [hB.cell, e1]; rfl
  have k7 : (w.alloc (.cells cs.toArray 40)).cell? ⟨w.heap.size, 7, none⟩ = some (.int .u16 (pf : Int)) := by rw [hB.cell, e1]; rfl
  have k8 : (w.alloc (.cells cs.toArray 40)).cell? ⟨w.heap.size, 8, none⟩ = some (.slice B1 X.length b1) := by rw [hB.cell, e1]; rfl
  have k9 : (w.alloc (.cells cs.toArray 40)).cell? ⟨w.heap.size, 9, none⟩ = some (.slice D1 Y.length d1) := by rw [hB.cell, e1]; rfl
  have ka : (w.alloc (.cells cs.toArray 40)).cell? ⟨w.heap.size, 10, none⟩ = some (.int .u8 (pd : Int)) := by rw [hB.cell, e1]; rfl
  obtain ⟨K, hK⟩ : ∃ K, K = U.length := ⟨_, rfl⟩
  obtain ⟨M, hM⟩ : ∃ M, M = X.length := ⟨_, rfl⟩
  obtain ⟨L, hL⟩ : ∃ L, L = Y.length := ⟨_, rfl⟩
  rw [← hK] at m2 k5
  rw [← hM] at m3 m4 m5 k8
  rw [← hL] at m6 hp k9
  have q4 : ((M : Int) % 4 != 0) = false := by simp; omega
  have hmx : x = true ∨ (x = false ∧ M = 0 ∧ pf = 0) := by
    rcases m3 with h | h
    · exact .inl h
    · cases x
      · exact .inr ⟨rfl, h⟩
      · exact .inl rfl
  clear e1 hB u1 x1 y1 hK hM hL m3 m4 hH
  have HC9 : Hid (cs[9]? = some (.slice D1 L d1)) := Lib.hid (by rw [← HB.out.cell 9]; exact k9)
  have HC10 : Hid (cs[10]? = some (.int .u8 (pd : Int))) := Lib.hid (by rw [← HB.out.cell 10]; exact ka)
  have w1 : IntKind.i64.wrap ((H : Int) + (L : Int)) = (H : Int) + (L : Int) := by rw [IntKind.wrap_i64]; omega
  have w2 : IntKind.i64.wrap ((H : Int) + (L : Int) + (pd : Int)) = (H : Int) + (L : Int) + (pd : Int) := by rw [IntKind.wrap_i64]; omega
  have w3 : IntKind.i64.wrap (pd : Int) = (pd : Int) := by rw [IntKind.wrap_i64]; omega
  have w4 : decide ((H : Int) + (L : Int) + (pd : Int) ≤ 1200) = t := by rw [← m6, Bool.eq_iff_iff]; simp; omega
  clear m6
  rcases hmx with rfl | ⟨rfl, rfl, rfl⟩
  · go_enter Tryd.func28, Tryd.ntmps28
    go_wp2
    have hS : BlkV (w.alloc (.cells cs.toArray 40)).drew w.heap.size 40 cs ∧ PkRd (w.alloc (.cells cs.toArray 40)).drew cs PK.val ∧ Below w.heap.size w (w.alloc (.cells cs.toArray 40)).drew := ⟨HB.out, HP2.out.below ((Below.refl _ _).drew), HW.out.drew⟩
    clear k1 k5 k6 k7 k8 k9 ka
    refine wp_region_noPanic ?_
    refine wp_region_held (S := fun wz => BlkV wz w.heap.size 40 cs ∧ PkRd wz cs PK.val ∧ Below w.heap.size w wz) (by kernel_rfl) ?_
    change wpAnyH _ _ _ _ _ _ _ _ (World.drew _)
    generalize (w.alloc (.cells cs.toArray 40)).drew = w3 at hS ⊢
    refine wpAnyH_take (i := 0) (v := .agg cs.toArray) rfl (by kernel_rfl) (by kernel_rfl) (by kernel_rfl) (fun _ _ _ h => h) (Or.inl ⟨by rfl, fun wz hz => ?_⟩) hS ?_
    · exact run_ld 40 _ rfl w.heap.size 0 (by rfl) cs (hz.1.range 0 _ (fun i _ => by rw [Nat.zero_add])) (row11 hlen.out)
    simp only [Act.put, List.getElem_toArray, List.getElem_cons_zero, List.setIfInBounds_toArray, List.set_cons_succ, List.set_cons_zero]
    refine wpAnyH_take (i := 2) (v := ?_) rfl (by kernel_rfl) (by kernel_rfl) (by kernel_rfl) (fun _ _ _ h => h) (Or.inl ⟨by rfl, ?_⟩) hS ?_
    case refine_2 => (intro wz hz; go_simp; with_reducible rfl)
    simp only [Act.put, List.getElem_toArray, List.getElem_cons_succ, List.getElem_cons_zero, List.setIfInBounds_toArray, List.set_cons_succ, List.set_cons_zero]
    refine wpAnyH_take (i := 3) (v := ?_) rfl (by kernel_rfl) (by kernel_rfl) (by kernel_rfl) (fun _ _ _ h => h) (Or.inl ⟨by rfl, ?_⟩) hS ?_
    case refine_2 => (intro wz hz; have h9 := (hz.1.cell 9).trans HC9.out; go_simp; with_reducible rfl)
    simp only [Act.put, List.getElem_toArray, List.getElem_cons_succ, List.getElem_cons_zero, List.setIfInBounds_toArray, List.set_cons_succ, List.set_cons_zero]
    refine wpAnyH_take (i := 4) (v := ?_) rfl (by kernel_rfl) (by kernel_rfl) (by kernel_rfl) (fun _ _ _ h => h) (Or.inl ⟨by rfl, ?_⟩) hS ?_
    case refine_2 => (intro wz hz; go_simp; with_reducible rfl)
    simp only [Act.put, List.getElem_toArray, List.getElem_cons_succ, List.getElem_cons_zero, List.setIfInBounds_toArray, List.set_cons_succ, List.set_cons_zero]
    refine wpAnyH_take (i := 6) (v := ?_) rfl (by kernel_rfl) (by kernel_rfl) (by kernel_rfl) (fun _ _ _ h => h) (Or.inl ⟨by rfl, ?_⟩) hS ?_
    case refine_2 => (intro wz hz; go_simp; with_reducible rfl)
    simp only [Act.put, List.getElem_toArray, List.getElem_cons_succ, List.getElem_cons_zero, List.setIfInBounds_toArray, List.set_cons_succ, List.set_cons_zero]
    refine wpAnyH_take (i := 7) (v := ?_) rfl (by kernel_rfl) (by kernel_rfl) (by kernel_rfl) (fun _ _ _ h => h) (Or.inl ⟨by rfl, ?_⟩) hS ?_
    case refine_2 => (intro wz hz; have h10 := (hz.1.cell 10).trans HC10.out; go_simp; with_reducible rfl)
    simp only [Act.put, List.getElem_toArray, List.getElem_cons_succ, List.getElem_cons_zero, List.setIfInBounds_toArray, List.set_cons_succ, List.set_cons_zero]
    refine wpAnyH_take (i := 8) (v := ?_) rfl (by kernel_rfl) (by kernel_rfl) (by kernel_rfl) (fun _ _ _ h => h) (Or.inl ⟨by rfl, ?_⟩) hS ?_
    case refine_2 => (intro wz hz; go_simp; with_reducible rfl)
    simp only [Act.put, List.getElem_toArray, List.getElem_cons_succ, List.getElem_cons_zero, List.setIfInBounds_toArray, List.set_cons_succ, List.set_cons_zero]
    refine anyH_oneR (i := 1) (by kernel_rfl) rfl rfl (fun H0 hH0 => ?_)
    simp only [List.getElem_toArray, List.getElem_cons_succ, List.getElem_cons_zero]
    go_simp
    refine (HS.out w3 hS.2.1).mono ?_
    rintro e w4 ⟨rfl, hb4⟩
    have hS4 : BlkV w4 w.heap.size 40 cs ∧ PkRd w4 cs PK.val ∧ Below w.heap.size w w4 := ⟨hS.1.below hb4 hS.1.lt, hS.2.1.below hb4, hS.2.2.trans (hb4.mono hS.2.2.size)⟩
    refine hH0 _ _ hS4 ?_
    clear hH0 H0 hb4 hS
    refine wpAnyH_take (i := 5) (v := ?_) rfl (by kernel_rfl) (by kernel_rfl) (by kernel_rfl) (fun _ _ _ h => h) (Or.inl ⟨by rfl, ?_⟩) hS4 ?_
    case refine_2 => (intro wz hz; go_simp; with_reducible rfl)
    simp only [Act.put, List.getElem_toArray, List.getElem_cons_succ, List.getElem_cons_zero, List.setIfInBounds_toArray, List.set_cons_succ, List.set_cons_zero]
    refine wpAnyH_take (i := 9) (v := ?_) rfl (by kernel_rfl) (by kernel_rfl) (by kernel_rfl) (fun _ _ _ h => h) (Or.inl ⟨by rfl, ?_⟩) hS4 ?_
    case refine_2 => (intro wz hz; go_simp; with_reducible rfl)
    simp only [Act.put, List.getElem_toArray, List.getElem_cons_succ, List.getElem_cons_zero, List.setIfInBounds_toArray, List.set_cons_succ, List.set_cons_zero]
    refine wpAnyH_take (i := 10) (v := ?_) rfl (by kernel_rfl) (by kernel_rfl) (by kernel_rfl) (fun _ _ _ h => h) (Or.inl ⟨by rfl, ?_⟩) hS4 ?_
    case refine_2 => (intro wz hz; go_simp; with_reducible rfl)
    simp only [Act.put, List.getElem_toArray, List.getElem_cons_succ, List.getElem_cons_zero, List.setIfInBounds_toArray, List.set_cons_succ, List.set_cons_zero]
    refine wpAnyH_take (i := 11) (v := ?_) rfl (by kernel_rfl) (by kernel_rfl) (by kernel_rfl) (fun _ _ _ h => h) (Or.inl ⟨by rfl, ?_⟩) hS4 ?_
    case refine_2 => (intro wz hz; go_simp; with_reducible rfl)
    simp only [Act.put, List.getElem_toArray, List.getElem_cons_succ, List.getElem_cons_zero, List.setIfInBounds_toArray, List.set_cons_succ, List.set_cons_zero]
    refine wpAnyH_done (by kernel_rfl) ?_ _
    refine NoPanic.normal ?_
    go_wp2
    go_ret
    exact ⟨rfl, hS4.2.2⟩
  · go_enter Tryd.func28, Tryd.ntmps28
    go_wp2
    have hS : BlkV (w.alloc (.cells cs.toArray 40)).drew w.heap.size 40 cs ∧ PkRd (w.alloc (.cells cs.toArray 40)).drew cs PK.val ∧ Below w.heap.size w (w.alloc (.cells cs.toArray 40)).drew := ⟨HB.out, HP2.out.below ((Below.refl _ _).drew), HW.out.drew⟩
    clear k1 k5 k6 k7 k8 k9 ka
    refine wp_region_noPanic ?_
    refine wp_region_held (S := fun wz => BlkV wz w.heap.size 40 cs ∧ PkRd wz cs PK.val ∧ Below w.heap.size w wz) (by kernel_rfl) ?_
    change wpAnyH _ _ _ _ _ _ _ _ (World.drew _)
    generalize (w.alloc (.cells cs.toArray 40)).drew = w3 at hS ⊢
    refine wpAnyH_take (i := 0) (v := .agg cs.toArray) rfl (by kernel_rfl) (by kernel_rfl) (by kernel_rfl) (fun _ _ _ h => h) (Or.inl ⟨by rfl, fun wz hz => ?_⟩) hS ?_
    · exact run_ld 40 _ rfl w.heap.size 0 (by rfl) cs (hz.1.range 0 _ (fun i _ => by rw [Nat.zero_add])) (row11 hlen.out)
    simp only [Act.put, List.getElem_toArray, List.getElem_cons_zero, List.setIfInBounds_toArray, List.set_cons_succ, List.set_cons_zero]
    refine wpAnyH_take (i := 2) (v := ?_) rfl (by kernel_rfl) (by kernel_rfl) (by kernel_rfl) (fun _ _ _ h => h) (Or.inl ⟨by rfl, ?_⟩) hS ?_
    case refine_2 => (intro wz hz; go_simp; with_reducible rfl)
    simp only [Act.put, List.getElem_toArray, List.getElem_cons_succ, List.getElem_cons_zero, List.setIfInBounds_toArray, List.set_cons_succ, List.set_cons_zero]
    refine wpAnyH_take (i := 3) (v := ?_) rfl (by kernel_rfl) (by kernel_rfl) (by kernel_rfl) (fun _ _ _ h => h) (Or.inl ⟨by rfl, ?_⟩) hS ?_
    case refine_2 => (intro wz hz; have h9 := (hz.1.cell 9).trans HC9.out; go_simp; with_reducible rfl)
    simp only [Act.put, List.getElem_toArray, List.getElem_cons_succ, List.getElem_cons_zero, List.setIfInBounds_toArray, List.set_cons_succ, List.set_cons_zero]
    refine wpAnyH_take (i := 4) (v := ?_) rfl (by kernel_rfl) (by kernel_rfl) (by kernel_rfl) (fun _ _ _ h => h) (Or.inl ⟨by rfl, ?_⟩) hS ?_
    case refine_2 => (intro wz hz; go_simp; with_reducible rfl)
    simp only [Act.put, List.getElem_toArray, List.getElem_cons_succ, List.getElem_cons_zero, List.setIfInBounds_toArray, List.set_cons_succ, List.set_cons_zero]
    refine wpAnyH_take (i := 6) (v := ?_) rfl (by kernel_rfl) (by kernel_rfl) (by kernel_rfl) (fun _ _ _ h => h) (Or.inl ⟨by rfl, ?_⟩) hS ?_
    case refine_2 => (intro wz hz; go_simp; with_reducible rfl)
    simp only [Act.put, List.getElem_toArray, List.getElem_cons_succ, List.getElem_cons_zero, List.setIfInBounds_toArray, List.set_cons_succ, List.set_cons_zero]
    refine wpAnyH_take (i := 7) (v := ?_) rfl (by kernel_rfl) (by kernel_rfl) (by kernel_rfl) (fun _ _ _ h => h) (Or.inl ⟨by rfl, ?_⟩) hS ?_
    case refine_2 => (intro wz hz; have h10 := (hz.1.cell 10).trans HC10.out; go_simp; with_reducible rfl)
    simp only [Act.put, List.getElem_toArray, List.getElem_cons_succ, List.getElem_cons_zero, List.setIfInBounds_toArray, List.set_cons_succ, List.set_cons_zero]
    refine wpAnyH_take (i := 8) (v := ?_) rfl (by kernel_rfl) (by kernel_rfl) (by kernel_rfl) (fun _ _ _ h => h) (Or.inl ⟨by rfl, ?_⟩) hS ?_
    case refine_2 => (intro wz hz; go_simp; with_reducible rfl)
    simp only [Act.put, List.getElem_toArray, List.getElem_cons_succ, List.getElem_cons_zero, List.setIfInBounds_toArray, List.set_cons_succ, List.set_cons_zero]
    refine anyH_oneR (i := 1) (by kernel_rfl) rfl rfl (fun H0 hH0 => ?_)
    simp only [List.getElem_toArray, List.getElem_cons_succ, List.getElem_cons_zero]
    go_simp
    refine (HS.out w3 hS.2.1).mono ?_
    rintro e w4 ⟨rfl, hb4⟩
    have hS4 : BlkV w4 w.heap.size 40 cs ∧ PkRd w4 cs PK.val ∧ Below w.heap.size w w4 := ⟨hS.1.below hb4 hS.1.lt, hS.2.1.below hb4, hS.2.2.trans (hb4.mono hS.2.2.size)⟩
    refine hH0 _ _ hS4 ?_
    clear hH0 H0 hb4 hS
    refine wpAnyH_take (i := 5) (v := ?_) rfl (by kernel_rfl) (by kernel_rfl) (by kernel_rfl) (fun _ _ _ h => h) (Or.inl ⟨by rfl, ?_⟩) hS4 ?_
    case refine_2 => (intro wz hz; go_simp; with_reducible rfl)
    simp only [Act.put, List.getElem_toArray, List.getElem_cons_succ, List.getElem_cons_zero, List.setIfInBounds_toArray, List.set_cons_succ, List.set_cons_zero]
    refine wpAnyH_take (i := 9) (v := ?_) rfl (by kernel_rfl) (by kernel_rfl) (by kernel_rfl) (fun _ _ _ h => h) (Or.inl ⟨by rfl, ?_⟩) hS4 ?_
    case refine_2 => (intro wz hz; go_simp; with_reducible rfl)
    simp only [Act.put, List.getElem_toArray, List.getElem_cons_succ, List.getElem_cons_zero, List.setIfInBounds_toArray, List.set_cons_succ, List.set_cons_zero]
    refine wpAnyH_take (i := 10) (v := ?_) rfl (by kernel_rfl) (by kernel_rfl) (by kernel_rfl) (fun _ _ _ h => h) (Or.inl ⟨by rfl, ?_⟩) hS4 ?_
    case refine_2 => (intro wz hz; go_simp; with_reducible rfl)
    simp only [Act.put, List.getElem_toArray, List.getElem_cons_succ, List.getElem_cons_zero, List.setIfInBounds_toArray, List.set_cons_succ, List.set_cons_zero]
    refine wpAnyH_take (i := 11) (v := ?_) rfl (by kernel_rfl) (by kernel_rfl) (by kernel_rfl) (fun _ _ _ h => h) (Or.inl ⟨by rfl, ?_⟩) hS4 ?_
    case refine_2 => (intro wz hz; go_simp; with_reducible rfl)
    simp only [Act.put, List.getElem_toArray, List.getElem_cons_succ, List.getElem_cons_zero, List.setIfInBounds_toArray, List.set_cons_succ, List.set_cons_zero]
    refine wpAnyH_done (by kernel_rfl) ?_ _
    refine NoPanic.normal ?_
    go_wp2
    go_ret
    exact ⟨rfl, hS4.2.2⟩

theorem may_yes (cs : List Value) (p : Pkt) (w : World) (h : PkRd w cs p) (hm : mayB p) (hp : p.pl.length ≤ 1000000) (hpd : p.pd < 256) :
    Calls Tryd.prog 28 #[.agg cs.toArray] w fun e w' => e = .returned (.bool true) ∧ Below w.heap.size w w' :=
  may_core cs p true w h hm.1 hm.2.1 hm.2.2.1 hm.2.2.2.1 hm.2.2.2.2.1 (by simpa using hm.2.2.2.2.2) hp hpd

set_option maxRecDepth 100000 in
set_option maxHeartbeats 1000000 in
theorem may_no (cs : List Value) (p : Pkt) (w : World) (h : PkRd w cs p) (hm : ¬ mayB p) (ho : p.ot.length ≤ 1000000) (hxt : p.xt.length ≤ 1000000) (hp : p.pl.length ≤ 1000000) (hpd : p.pd < 256) :
    Calls Tryd.prog 28 #[.agg cs.toArray] w fun e w' => e = .returned (.bool false) ∧ Below w.heap.size w w' := by
  by_cases c6 : p.ty ≤ 127 ∧ p.ot.length ≤ 15 ∧ (p.x = true ∨ (p.xt.length = 0 ∧ p.pf = 0)) ∧ p.xt.length % 4 = 0 ∧ p.xt.length ≤ 1020
  · obtain ⟨m1, m2, m3, m4, m5⟩ := c6
    exact may_core cs p false w h m1 m2 m3 m4 m5 (by
      rw [decide_eq_false_iff_not]
      exact fun h6 => hm ⟨m1, m2, m3, m4, m5, h6⟩) hp hpd
  obtain ⟨A1, a1, B1, b1, D1, d1, e1, u1, x1, y1⟩ := h
  obtain ⟨m, ty, sq, st, so, U, x, pf, X, Y, pd⟩ := p
  simp only at c6 ho hxt hp hpd e1
  have HW : Hid (Below w.heap.size w (w.alloc (.cells cs.toArray 40))) := Lib.hid ((Below.refl _ _).alloc (Nat.le_refl _) _)
  have hB := BlkV.new w 40 cs
  have k1 : (w.alloc (.cells cs.toArray 40)).cell? ⟨w.heap.size, 1, none⟩ = some (.int .u8 (ty : Int)) := by rw [hB.cell, e1]; rfl
  have k5 : (w.alloc (.cells cs.toArray 40)).cell? ⟨w.heap.size, 5, none⟩ = some (.slice A1 U.length a1) := by rw [hB.cell, e1]; rfl
  have k6 : (w.alloc (.cells cs.toArray 40)).cell? ⟨w.heap.size, 6, none⟩ = some (.bool x) := by rw [hB.cell, e1]; rfl
  have k7 : (w.alloc (.cells cs.toArray 40)).cell? ⟨w.heap.size, 7, none⟩ = some (.int .u16 (pf : Int)) := by rw [hB.cell, e1]; rfl
  have k8 : (w.alloc (.cells cs.toArray 40)).cell? ⟨w.heap.size, 8, none⟩ = some (.slice B1 X.length b1) := by rw [hB.cell, e1]; rfl
  obtain ⟨K, hK⟩ : ∃ K, K = U.length := ⟨_, rfl⟩
  obtain ⟨M, hM⟩ : ∃ M, M = X.length := ⟨_, rfl⟩
  rw [← hK] at ho k5 c6
  simp only [← hM] at hxt k8 c6
  clear e1 hB u1 x1 y1 hK hM hm
  have hway : 127 < ty ∨ (ty ≤ 127 ∧ 15 < K) ∨ (ty ≤ 127 ∧ K ≤ 15 ∧ x = false ∧ 0 < M) ∨ (ty ≤ 127 ∧ K ≤ 15 ∧ x = false ∧ M = 0 ∧ ((pf : Int) != 0) = true) ∨
      (ty ≤ 127 ∧ K ≤ 15 ∧ x = true ∧ ((M : Int) % 4 != 0) = true) ∨ (ty ≤ 127 ∧ K ≤ 15 ∧ x = true ∧ ((M : Int) % 4 != 0) = false ∧ 1020 < M) := by
    by_cases h1 : 127 < ty
    · exact .inl h1
    by_cases h2 : 15 < K
    · exact .inr (.inl ⟨by omega, h2⟩)
    cases hx : x
    · by_cases h3 : 0 < M
      · exact .inr (.inr (.inl ⟨by omega, by omega, rfl, h3⟩))
      · refine .inr (.inr (.inr (.inl ⟨by omega, by omega, rfl, by omega, ?_⟩)))
        have hM0 : M = 0 := by omega
        have : pf ≠ 0 := fun h => c6 ⟨by omega, by omega, .inr ⟨hM0, h⟩, by omega, by omega⟩
        simp; omega
    · by_cases h4 : M % 4 = 0
      · refine .inr (.inr (.inr (.inr (.inr ⟨by omega, by omega, rfl, by simp; omega, ?_⟩))))
        exact Nat.lt_of_not_le fun h5 => c6 ⟨by omega, by omega, .inl hx, h4, h5⟩
      · exact .inr (.inr (.inr (.inr (.inl ⟨by omega, by omega, rfl, by simp; omega⟩))))
  clear c6
  rcases hway with g1 | ⟨g1, g2⟩ | ⟨g1, g2, rfl, g3⟩ | ⟨g1, g2, rfl, rfl, g3⟩ | ⟨g1, g2, rfl, g3⟩ | ⟨g1, g2, rfl, g3, g4⟩
  · go_enter Tryd.func28, Tryd.ntmps28
    go_wp2
    go_ret
    exact ⟨rfl, HW.out⟩
  · go_enter Tryd.func28, Tryd.ntmps28
    go_wp2
    go_ret
    exact ⟨rfl, HW.out⟩
  · go_enter Tryd.func28, Tryd.ntmps28
    go_wp2
    go_ret
    exact ⟨rfl, HW.out⟩
  · go_enter Tryd.func28, Tryd.ntmps28
    go_wp2
    go_ret
    exact ⟨rfl, HW.out⟩
  · go_enter Tryd.func28, Tryd.ntmps28
    go_wp2
    go_ret
    exact ⟨rfl, HW.out⟩
  · go_enter Tryd.func28, Tryd.ntmps28
    go_wp2
    go_ret
    exact ⟨rfl, HW.out⟩

end Go.Proofs.YtmkeioeodlidgaaDoor
