/- Several texts in one: plain words and walks. No statement is proved here. -/
import Derived.Test.YtheefckohnaceaaGreatDoorZM0
import Derived.Test.YtheefckohnaceaaGreatDoorZM5
namespace Go.Proofs.YtheefckohnaceaaGreatDoor
open Go.RowKit

theorem wpList_copy_hd {P : Program} {w : World} {ops : Array Oper} {rest : List Oper} {o : Oper} {a : Act} {Q : Exit → Act → World → Prop} (hgd : o.guard = none) (d s : Operand) {t e : TypeId}
 (ho : o.op = .call { callee := .builtin .copy, args := #[d, s], argTypes := #[t, t] }) (ht : P.underlying t = some (.slice e)) (hi : (P.info? e).map (fun i => (i.zero, i.size, i.bytes)) = some (some (.int .u8 0), 1, 1))
 (g n c : Nat) (tb : TypeId) (old : List UInt8) (hd : a.eval d = .slice (some ⟨g, 0, none⟩) n c) (hg : Blk w g tb old) (A : Option Addr) (m cm : Nat) (news : List UInt8) (hs : a.eval s = .slice A m cm) (hr : RdS w A m cm news)
 (hm : m ≤ n) (hn : n ≤ old.length)
 (hK : ∀ w', Blk w' g tb (news ++ old.drop m) → Below g w w' → wpList P ops Q rest (a.put o.dst (goInt m)) w') : wpList P ops Q (o :: rest) a w := by
 obtain ⟨i, hi, _, hs1, _⟩ := info_parts hi
 have hl := hr.len
 have := wpList_copy_splice (P := P) (w := w) (ops := ops) (rest := rest) (o := o) (a := a) (Q := Q) hgd d s t t ho e ht (by rw [hi]; simp [hs1]) (some ⟨g, 0, none⟩) A n c m cm hd hs g 0 (cells old) tb hg (cells news)
  (by rw [length_cells, hl]; exact (Nat.min_eq_left hm).symm) (fun h0 => ⟨rfl, by
    rw [length_cells] at h0
    obtain ⟨b, off, hA, _, hc⟩ := hr.2.2.2.2 (by omega)
    refine ⟨_, hA, fun j u hu => ?_⟩
    have hj : j < news.length := by
     rcases Nat.lt_or_ge j news.length with h | h
     · exact h
     · rw [List.getElem?_eq_none (by rw [length_cells]; exact h)] at hu; cases hu
    rw [Addr.add_lit, hc j (by omega)]
    rw [cells_at hj] at hu
    exact hu⟩) (by simp only [length_cells]; omega) (cells_one news) g w (Below.refl _ _) (Nat.le_refl _)
 rw [length_cells, hl] at this
 refine this fun w' hg' hb' => hK w' ?_ hb'
 have h2 := hg'.out
 unfold Blk
 rw [h2]
 simp [splice, cells, hl]

theorem parts_lit1 {w : World} {A : Option Addr} {n c : Nat} {bs : List UInt8} (h : RdS w A n c bs) (e : TypeId) : PartsRd (w.alloc (.cells #[.slice A n c] e)) (some ⟨w.heap.size, 0, none⟩) 1 [bs] := by
 refine ⟨rfl, fun _ => ⟨w.heap.size, 0, rfl, by simp, fun j hj => ?_⟩⟩
 obtain rfl : j = 0 := by omega
 exact ⟨A, n, c, (BlkV.new w e [.slice A n c]).cell 0, h.below ((Below.refl _ _).alloc (Nat.le_refl _) _)⟩
theorem parts_lit2 {w : World} {A B : Option Addr} {n c m d : Nat} {xs bs : List UInt8} (h : RdS w A n c xs) (k : RdS w B m d bs) (e : TypeId) : PartsRd (w.alloc (.cells #[.slice A n c, .slice B m d] e)) (some ⟨w.heap.size, 0, none⟩) 2 [xs, bs] := by
 refine ⟨rfl, fun _ => ⟨w.heap.size, 0, rfl, by simp, fun j hj => ?_⟩⟩
 have hb : Below w.heap.size w (w.alloc (.cells #[.slice A n c, .slice B m d] e)) := (Below.refl _ _).alloc (Nat.le_refl _) _
 rcases (show j = 0 ∨ j = 1 by omega) with rfl | rfl
 · exact ⟨A, n, c, (BlkV.new w e [.slice A n c, .slice B m d]).cell 0, h.below hb⟩
 · exact ⟨B, m, d, (BlkV.new w e [.slice A n c, .slice B m d]).cell 1, k.below hb⟩
theorem PartsRd.vals {w : World} {A : Option Addr} {k : Nat} {ps : List (List UInt8)} (h : PartsRd w A k ps) : ∃ vs : List Value, vs.length = k ∧ (∀ v ∈ vs, v.oneCell' = true) ∧
 (∀ j, j < k → ∃ Aj nj cj, vs[j]? = some (.slice Aj nj cj) ∧ RdS w Aj nj cj (ps.getD j [])) ∧ (0 < k → ∃ b off, A = some ⟨b, off, none⟩ ∧ b < w.heap.size ∧ ∀ j, j < k → w.cell? ⟨b, off + j, none⟩ = vs[j]?) := by
 rcases Nat.eq_zero_or_pos k with rfl | hk
 · exact ⟨[], rfl, by simp, fun j hj => absurd hj (by omega), fun hj => absurd hj (by omega)⟩
 obtain ⟨b, off, rfl, hlt, hc⟩ := h.2 hk
 have hv : ∀ j, j < k → ((List.range k).map fun j => ((w.cell? ⟨b, off + j, none⟩).getD undef))[j]? = w.cell? ⟨b, off + j, none⟩ := fun j hj => by
  obtain ⟨_, _, _, h1, _⟩ := hc j hj
  simp [hj, h1]
 refine ⟨(List.range k).map fun j => ((w.cell? ⟨b, off + j, none⟩).getD undef), by simp, fun v hm => ?_, fun j hj => ?_, fun _ => ⟨b, off, rfl, hlt, fun j hj => (hv j hj).symm⟩⟩
 · obtain ⟨j, hj, rfl⟩ := List.mem_map.1 hm
   obtain ⟨_, _, _, h1, _⟩ := hc j (List.mem_range.1 hj)
   rw [h1]; rfl
 · obtain ⟨Aj, nj, cj, h1, h2⟩ := hc j hj
   exact ⟨Aj, nj, cj, by rw [hv j hj, h1], h2⟩
theorem PartsRd.of_own {w : World} {base : Nat} {e : TypeId} {A : Option Addr} {n c : Nat} {vs : List Value} {ps : List (List UInt8)} (h : w.ownsRow base e 1 (.slice A n c) n vs) (hl : ps.length = n)
 (hv : ∀ j, j < n → ∃ Aj nj cj, vs[j]? = some (.slice Aj nj cj) ∧ RdS w Aj nj cj (ps.getD j [])) : PartsRd w A n ps := by
 refine ⟨hl, fun hn => ?_⟩
 obtain ⟨g, cap, he, _, hg⟩ := h.form hn
 simp only [Value.slice.injEq] at he
 obtain ⟨rfl, _, rfl⟩ := he
 refine ⟨g, 0, rfl, hg, fun j hj => ?_⟩
 obtain ⟨Aj, nj, cj, h1, h2⟩ := hv j hj
 exact ⟨Aj, nj, cj, by rw [Nat.zero_add, h.cellAt j (by omega), h1], h2⟩

theorem wpList_append_parts {P : Program} {w : World} {ops : Array Oper} {rest : List Oper} {o : Oper} {a : Act} {Q : Exit → Act → World → Prop} (hgd : o.guard = none) (s x : Operand) {t e : TypeId}
 (ho : o.op = .call { callee := .builtin .append, args := #[s, x], argTypes := #[t, t] }) (ht : P.underlying t = some (.slice e)) (hi : (P.info? e).map (fun i => (i.zero, i.size, i.bytes)) = some (some (.slice none 0 0), 1, 24))
 (h : Nat) (A1 : Option Addr) (n1 c1 : Nat) (b1 : List UInt8) (hs : a.eval s = .slice (some ⟨h, 0, none⟩) 1 1) (hB : BlkV w h e [.slice A1 n1 c1]) (hr : RdS w A1 n1 c1 b1) (hoff : OffN A1 n1 h)
 (ad : Addr) (k c : Nat) (ps : List (List UInt8)) (hx : a.eval x = .slice (some ad) k c) (w0 : World) (hp : PartsRd w0 (some ad) k ps) (hb : Below w0.heap.size w0 w) (hh : w0.heap.size ≤ h) (hk : k ≤ 1000)
 (hK : ∀ A' c' w', PartsRd w' A' (1 + k) (b1 :: ps) → Below w0.heap.size w0 w' → w.grownBy w' (some h) → wpList P ops Q rest (a.put o.dst (.slice A' (1 + k) c')) w') : wpList P ops Q (o :: rest) a w := by
 obtain ⟨i, hi, hz, hs1, hby⟩ := info_parts hi
 obtain ⟨vs, hvl, hv1, hvr, hvc⟩ := (hp.below hb).vals
 have hown : w.ownsRow h e 1 (.slice (some ⟨h, 0, none⟩) 1 1) 1 [.slice A1 n1 c1] := ⟨rfl, .inr ⟨h, 1, _, rfl, Nat.le_refl _, hB, Nat.le_refl _, by simp [maxLen], by simp, by simp⟩⟩
 have hnews : ∀ j u, vs[j]? = some u → w.cell? (ad.add j) = some u := by
  intro j u hu
  have hj : j < k := by rw [← hvl]; exact (List.getElem?_eq_some_iff.1 hu).1
  obtain ⟨b, off, hA, _, hc⟩ := hvc (by omega)
  injection hA with hA
  subst hA
  rw [add_lit, hc j hj, hu]
 obtain ⟨v', w', hrun, hown', hg, _, hat⟩ := run_append_own_at (P := P) w h t o.type e i _ 1 24 ht hi hz hs1 hby rfl (by omega) _ 1 _ hown ad k c vs (by omega) hnews hv1 (by simp [maxLen]; omega) (by omega) (Nat.le_of_lt hB.lt)
 have hg' : w.grownBy w' (some h) := by simpa [Value.ownBlock] using hg
 obtain ⟨A', c', rfl⟩ := own_form hown'
 have hb' := hb.grown hg' hb.size (fun q hq => by injection hq with hq; omega)
 have hp' := hp.below hb'
 obtain ⟨ws, hwl, _, hwr, hwc⟩ := hp'.vals
 refine wpList_plain hgd fun _ hK2 => ?_
 unfold Oper.wp execOp
 simp only [ho, resolve, invoke, builtin, Sem.run_bind, Sem.run_pure, Result.andThen_ok, List.map_toArray, List.map_cons, List.map_nil, hs, hx, hrun]
 refine hK2 _ _ (hK A' c' w' (PartsRd.of_own hown' (by simp [hp.1]; omega) fun j hj => ?_) hb' hg')
 rcases Nat.eq_zero_or_pos j with rfl | hj0
 · exact ⟨A1, n1, c1, rfl, hr.keep hg' (fun q hq => by injection hq with hq; exact hq ▸ hoff)⟩
 · obtain ⟨j, rfl⟩ : ∃ i, j = i + 1 := ⟨j - 1, by omega⟩
   obtain ⟨Aj, nj, cj, h1, h2⟩ := hvr j (by omega)
   refine ⟨Aj, nj, cj, by simpa using h1, ?_⟩
   obtain ⟨b, off, hA, hlt, hc⟩ := hp.2 (by omega)
   obtain ⟨Bj, mj, dj, h3, h4⟩ := hc j (by omega)
   have e1 := (hb.cell (p := ⟨b, off + j, none⟩) hlt).trans h3
   obtain ⟨b', off', hA', _, hc'⟩ := hvc (by omega)
   rw [hA] at hA'
   simp only [Option.some.injEq, Addr.mk.injEq, and_true] at hA'
   obtain ⟨rfl, rfl⟩ := hA'
   rw [hc' j (by omega), h1] at e1
   simp only [Option.some.injEq, Value.slice.injEq] at e1
   obtain ⟨rfl, rfl, rfl⟩ := e1
   exact h4.below hb'
end Go.Proofs.YtheefckohnaceaaGreatDoor

namespace Go.Proofs.YtheefckohnaceaaGreatDoor
open List renaming getElem_toArray → xgT, getElem_cons_succ → xgS, getElem_cons_zero → xgZ, setIfInBounds_toArray → xsT, set_cons_succ → xsS, set_cons_zero → xsZ
open Go.RowKit
set_option linter.unusedVariables false

def Z64 : List UInt8 := List.replicate 64 0
def Z20 : List UInt8 := List.replicate 20 0
theorem Z64_len : Z64.length = 64 := by simp [Z64]
theorem Z20_len : Z20.length = 20 := by simp [Z20]
theorem pad_is {k : List UInt8} {n : Nat} (h : k.length = n) : k ++ Z64.drop n = padTo k := by subst h; rw [Z64, padTo, List.drop_replicate]
theorem zero64b (w : World) : (zeroValue 141).run Tryz.prog w = .ok (.agg (cells Z64).toArray) w := by kernel_rfl
theorem zero20b (w : World) : (zeroValue 40).run Tryz.prog w = .ok (.agg (cells Z20).toArray) w := by kernel_rfl

theorem block_baseM (w : World) : Below w.heap.size w ((w.alloc (Obj.cells (cells Z64).toArray 141)).alloc (Obj.cells (cells Z64).toArray 141)) ∧
 Blk ((w.alloc (Obj.cells (cells Z64).toArray 141)).alloc (Obj.cells (cells Z64).toArray 141)) w.heap.size 141 Z64 ∧
 Blk ((w.alloc (Obj.cells (cells Z64).toArray 141)).alloc (Obj.cells (cells Z64).toArray 141)) (w.heap.size + 1) 141 Z64 ∧
 ((w.alloc (Obj.cells (cells Z64).toArray 141)).alloc (Obj.cells (cells Z64).toArray 141)).heap.size = w.heap.size + 1 + 1 :=
 ⟨((Below.refl _ _).alloc (Nat.le_refl _) _).alloc (by simp) _, (Blk.new _ _ _).alloc _, Blk.new_at _ _ _ _ _ (by simp) rfl, by simp⟩

set_option maxRecDepth 100000 in
set_option maxHeartbeats 1000000 in
theorem blockOf_any (A : Option Addr) (nb c : Nat) (key : List UInt8) (w : World) (ht : TabH w) (hw : 0 < w.heap.size) (hr : RdS w A nb c key) (hle : nb ≤ 100000) :
 Calls Tryz.prog 79 #[.slice A nb c] w fun e w' => e = .returned (.agg (cells (keyB key)).toArray) ∧ Below w.heap.size w w' := by
 have hz := zero64b
 have hz2 := zero20b
 have hl := hr.len
 obtain ⟨hb0, hR0, hB0, hz0⟩ := block_baseM w
 have hr0 := hr.below hb0
 obtain ⟨w1, hw1⟩ : ∃ w1, w1 = ((w.alloc (Obj.cells (cells Z64).toArray 141)).alloc (Obj.cells (cells Z64).toArray 141)) := ⟨_, rfl⟩
 rw [← hw1] at hb0 hR0 hB0 hz0 hr0
 have hkl := keyB_len key
 have HKL := Lib.hid hkl
 have HZ := Lib.hid hz0
 have HLE := Lib.hid hle
 by_cases h64 : 64 < nb
 · have hks : keyB key = padTo (shaSum key) := by unfold keyB; rw [keyS_long (by omega)]
   have ht1 := tab_below ht hb0
   have hd : (64 : Int) < (nb : Int) := by omega
   have hsum : Calls Tryz.prog 80 #[.slice (some ⟨w1.heap.size, 0, none⟩) 1 1] (w1.alloc (.cells #[.slice A nb c] 32)) fun e w' => e = .returned (.agg (cells (shaSum key)).toArray) ∧ Below w1.heap.size w1 w' := by
    have hb : Below w1.heap.size w1 (w1.alloc (.cells #[.slice A nb c] 32)) := (Below.refl _ _).alloc (Nat.le_refl _) _
    have := sum_any _ 1 1 [key] _ (tab_below ht1 hb) (by simp) (parts_lit1 hr0 32) (by omega) (by simp; omega)
    have e : [key].flatten = key := by simp
    rw [e] at this
    exact this.mono fun _ _ ⟨h1, h2⟩ => ⟨h1, hb.trans (h2.mono hb.size)⟩
   obtain ⟨D, hD⟩ : ∃ D, D = shaSum key := ⟨_, rfl⟩
   have hDl : D.length = 20 := by rw [hD]; exact shaSum_len _
   rw [← hD] at hsum hks
   rw [HZ.out] at hsum
   have HS := Lib.hid hsum
   have HD := Lib.hid hDl
   have HK := Lib.hid hks
   clear hsum hDl hD hks hkl hl hle hz0 h64
   go_enter Tryz.func79, Tryz.ntmps79
   go_wp2_with (first
    | (go_at_call 80; rw [← hw1]; ((with_reducible refine (Hid.out HS).mono ?_); rintro e w2 ⟨rfl, hb2⟩; have hb3 := hb0.trans (hb2.mono (by have := HZ.out; omega)); have hR2 := hR0.below hb2 (by omega); have hB2 := hB0.below hb2 (by omega); have hR2a := hR2.alloc (.cells (cells Z20).toArray 40); have hB2a := hB2.alloc (.cells (cells Z20).toArray 40); have hT2 := BlkV.new_at w2 w2.heap.size 40 (cells Z20) _ rfl rfl; have hb3a := hb3.alloc hb3.size (.cells (cells Z20).toArray 40)))
    | ((with_reducible refine wpList_st rfl 40 (.tmp 4) (.tmp 10) rfl w2.heap.size 0 (cells D) rfl rfl 40 _ hT2 (by simp [length_cells, HD.out, Z20_len]) (row20 (by rw [length_cells]; exact HD.out)) (cells_one _) ?_); intro w3 hB3 ho3; rw [splice_all _ _ (by rw [length_cells, length_cells, HD.out, Z20_len])] at hB3; have hlt := hB2.lt; have hR3 := Blk.only hR2a ho3 (by omega); have hB4 := Blk.only hB2a ho3 (by omega); have hrd3 := (show Blk w3 w2.heap.size 40 D from hB3).rd (n := 20) (c := 20) HD.out (Nat.le_refl _) (by simp [maxLen]); have hb4 := hb3a.trans (ho3.below hb3.size))
    | ((with_reducible refine wpList_copy_hd rfl (.tmp 12) (.tmp 13) rfl Tryz.underlying32 u8_info (w.heap.size + 1) 64 64 141 Z64 rfl hB4 (some ⟨w2.heap.size, 0, none⟩) 20 20 D rfl hrd3 (by omega) (by rw [Z64_len]; omega) ?_); intro w5 hB5 hb5; rw [pad_is HD.out, ← HK.out] at hB5; have hR5 := hR3.below hb5 (by omega); have hb6 := hb4.trans (hb5.mono (by omega)))
    | (with_reducible refine wpList_ld rfl 141 (.tmp 3) rfl (w.heap.size + 1) 0 rfl (cells (keyB key)) (hB5.v.range 0 _ (by simp)) (row64 (by rw [length_cells]; exact HKL.out)) ?_)
    | ((with_reducible refine wpList_st rfl 141 (.tmp 2) (.tmp 15) rfl w.heap.size 0 (cells (keyB key)) rfl rfl 141 _ hR5.v (by rw [length_cells, length_cells, HKL.out, Z64_len]; omega) (row64 (by rw [length_cells]; exact HKL.out)) (cells_one _) ?_); intro w6 hB6 ho6))
   rw [splice_all _ _ (by rw [length_cells, length_cells, HKL.out, Z64_len])] at hB6
   exact ret_row (by rfl) (by rfl) hB6 (row64 (by rw [length_cells]; exact HKL.out)) (by rfl) ⟨rfl, hb6.trans (ho6.below (Nat.le_refl _))⟩
 · have hks : keyB key = padTo key := by unfold keyB; rw [keyS_short (by omega)]
   have hd : decide ((64 : Int) < (nb : Int)) = false := by simp; omega
   have h64' : nb ≤ 64 := by omega
   have HL := Lib.hid hl
   have HK := Lib.hid hks
   rw [hw1] at hb0 hR0 hB0 hr0 hz0
   clear hks hkl hl hle h64
   go_enter Tryz.func79, Tryz.ntmps79
   go_wp2_with (first
    | ((with_reducible refine wpList_copy_hd rfl (.tmp 12) (.tmp 13) rfl Tryz.underlying32 u8_info (w.heap.size + 1) 64 64 141 Z64 rfl hB0 A nb c key rfl hr0 h64' (by rw [Z64_len]; omega) ?_); intro w5 hB5 hb5; rw [pad_is HL.out, ← HK.out] at hB5; have hR5 := hR0.below hb5 (by omega); have hb6 := hb0.trans (hb5.mono (by omega)))
    | (with_reducible refine wpList_ld rfl 141 (.tmp 3) rfl (w.heap.size + 1) 0 rfl (cells (keyB key)) (hB5.v.range 0 _ (by simp)) (row64 (by rw [length_cells]; exact HKL.out)) ?_)
    | ((with_reducible refine wpList_st rfl 141 (.tmp 2) (.tmp 15) rfl w.heap.size 0 (cells (keyB key)) rfl rfl 141 _ hR5.v (by rw [length_cells, length_cells, HKL.out, Z64_len]; omega) (row64 (by rw [length_cells]; exact HKL.out)) (cells_one _) ?_); intro w6 hB6 ho6))
   rw [splice_all _ _ (by rw [length_cells, length_cells, HKL.out, Z64_len])] at hB6
   exact ret_row (by rfl) (by rfl) hB6 (row64 (by rw [length_cells]; exact HKL.out)) (by rfl) ⟨rfl, hb6.trans (ho6.below (Nat.le_refl _))⟩
theorem slice_info : (Tryz.prog.info? 32).map (fun i => (i.zero, i.size, i.bytes)) = some (some (.slice none 0 0), 1, 24) := by kernel_rfl

set_option maxRecDepth 100000 in
set_option maxHeartbeats 1000000 in
theorem whole_any (A : Option Addr) (nb c : Nat) (key : List UInt8) (ad : Addr) (k cp : Nat) (ps : List (List UInt8)) (w : World) (ht : TabH w) (hw : 0 < w.heap.size) (hr : RdS w A nb c key) (hle : nb ≤ 100000)
 (hp : PartsRd w (some ad) k ps) (hk : k ≤ 1000) (hpl : ps.flatten.length ≤ 100000) :
 Calls Tryz.prog 54 #[.slice A nb c, .slice (some ad) k cp] w fun e w' => e = .returned (.agg (cells (macFull key ps.flatten)).toArray) ∧ Below w.heap.size w w' := by
 have hz := zero64b
 have hz2 := zero20b
 have hb0 : Below w.heap.size w (w.alloc (Obj.cells (cells Z20).toArray 40)) := (Below.refl _ _).alloc (Nat.le_refl _) _
 have hR0 : BlkV (w.alloc (Obj.cells (cells Z20).toArray 40)) w.heap.size 40 (cells Z20) := BlkV.new _ _ _
 have hbl := blockOf_any A nb c key _ (tab_below ht hb0) (by simp) (hr.below hb0) hle
 obtain ⟨K, hK⟩ : ∃ K, K = keyB key := ⟨_, rfl⟩
 have hKl : K.length = 64 := by rw [hK]; exact keyB_len key
 rw [← hK] at hbl
 obtain ⟨M, hM⟩ : ∃ M, M = ps.flatten := ⟨_, rfl⟩
 rw [← hM] at hpl
 obtain ⟨I, hI⟩ : ∃ I, I = inSum key M := ⟨_, rfl⟩
 obtain ⟨F, hF⟩ : ∃ F, F = macFull key M := ⟨_, rfl⟩
 have hIl : I.length = 20 := by rw [hI]; exact inSum_len _ _
 have hFl : F.length = 20 := by rw [hF]; exact macFull_len _ _
 have hs1 : ∀ (A' : Option Addr) (w5 : World), TabH w5 → 0 < w5.heap.size → PartsRd w5 A' (1 + k) (xorB 54 K :: ps) → ∀ c', Calls Tryz.prog 80 #[.slice A' (1 + k) c'] w5 fun e w' => e = .returned (.agg (cells I).toArray) ∧ Below w5.heap.size w5 w' := by
  intro A' w5 h1 h2 h3 c'
  have := sum_any A' (1 + k) c' _ w5 h1 h2 h3 (by omega) (by simp only [List.flatten_cons, List.length_append, xorB_len]; rw [← hM]; omega)
  rw [List.flatten_cons, ← hM] at this
  rw [hI, inSum, ← hK]
  exact this
 have hs2 : ∀ (A' : Option Addr) (w5 : World), TabH w5 → 0 < w5.heap.size → PartsRd w5 A' 2 [xorB 92 K, I] → ∀ c', Calls Tryz.prog 80 #[.slice A' 2 c'] w5 fun e w' => e = .returned (.agg (cells F).toArray) ∧ Below w5.heap.size w5 w' := by
  intro A' w5 h1 h2 h3 c'
  have := sum_any A' 2 c' _ w5 h1 h2 h3 (by omega) (by simp only [List.flatten_cons, List.flatten_nil, List.append_nil, List.length_append, xorB_len]; omega)
  simp only [List.flatten_cons, List.flatten_nil, List.append_nil] at this
  rw [hF, macFull, ← hK, ← hI]
  exact this
 rw [← hM, ← hF]
 have HKL := Lib.hid hKl
 have HIL := Lib.hid hIl
 have HFL := Lib.hid hFl
 have HBL := Lib.hid hbl
 have HS1 := Lib.hid hs1
 have HS2 := Lib.hid hs2
 have HP := Lib.hid hp
 have HT := Lib.hid ht
 clear hbl hK hM hI hF hKl hIl hFl hs1 hs2 hr hle hp hpl ht
 go_enter Tryz.func54, Tryz.ntmps54
 go_wp2_with (first
  | (go_at_call 79; ((with_reducible refine (Hid.out HBL).mono ?_); rintro e w2 ⟨rfl, hb2⟩; have hb2w := hb0.trans (hb2.mono hb0.size); have hR2 := hR0.below hb2 (by simp); have hR2a := hR2.alloc (.cells (cells Z64).toArray 141); have hb2a := hb2w.alloc hb2w.size (.cells (cells Z64).toArray 141); have hK2 := BlkV.new_at w2 w2.heap.size 141 (cells Z64) _ rfl rfl))
  | ((with_reducible refine wpList_st rfl 141 (.tmp 5) (.tmp 8) rfl w2.heap.size 0 (cells K) rfl rfl 141 _ hK2 (by rw [length_cells, length_cells, HKL.out, Z64_len]; omega) (row64 (by rw [length_cells]; exact HKL.out)) (cells_one _) ?_); intro w3 hK3 ho3; rw [splice_all _ _ (by rw [length_cells, length_cells, HKL.out, Z64_len])] at hK3; have hlt2 := hR2.lt; have hR3 := hR2a.only ho3 (by omega); have hb3 := hb2a.trans (ho3.below hb2w.size))
  | (with_reducible refine wpList_ld rfl 141 (.tmp 5) rfl w2.heap.size 0 rfl (cells K) (hK3.range 0 _ (by simp)) (row64 (by rw [length_cells]; exact HKL.out)) ?_)
  | (go_at_call 81; ((with_reducible refine (turned_anyM K 54 54 w3 HKL.out (by decide)).mono ?_); rintro e w4 ⟨rfl, hU4, hb4⟩; have hR4 := hR3.below hb4 hR3.lt; have hK4 := hK3.below hb4 hK3.lt; have hb4w := hb3.trans (hb4.mono hb3.size); have hb4a := hb4w.alloc hb4w.size (.cells #[.slice (some ⟨w3.heap.size, 0, none⟩) 64 64] 32); have hrow := BlkV.new_at w4 w4.heap.size 32 [.slice (some ⟨w3.heap.size, 0, none⟩) 64 64] _ rfl rfl; have hU4a := (hU4.alloc (.cells #[.slice (some ⟨w3.heap.size, 0, none⟩) 64 64] 32)).rd (n := 64) (c := 64) (by rw [xorB_len]; exact HKL.out) (Nat.le_refl _) (by simp [maxLen]); have hoffU : OffN (some ⟨w3.heap.size, 0, none⟩) 64 w4.heap.size := (fun _ => off_ne (by have := hU4.lt; omega))))
  | (at_builtin; refine wpList_append_parts rfl (.tmp 11) (.tmp 12) rfl Tryz.underlying80 slice_info w4.heap.size (some ⟨w3.heap.size, 0, none⟩) 64 64 (xorB 54 K) rfl hrow hU4a hoffU ad k cp ps rfl w HP.out hb4a (by have := hb4w.size; omega) hk ?_; intro A5 c5 w5 hp5 hb5 hg5; have hR5 := (hR4.alloc _).grown hg5 (by have := hR4.lt; intro e; injection e with e; omega); have hK5 := (hK4.alloc _).grown hg5 (by have := hK4.lt; intro e; injection e with e; omega); have ht5 := tab_below HT.out hb5; have hw5 : 0 < w5.heap.size := (by have := hb5.size; omega))
  | (go_at_call 80; ((with_reducible refine (HS1.out A5 w5 ht5 hw5 hp5 c5).mono ?_); rintro e w6 ⟨rfl, hb6⟩; have hR6 := hR5.below hb6 hR5.lt; have hK6 := hK5.below hb6 hK5.lt; have hb6w := hb5.trans (hb6.mono hb5.size); have hR6a := hR6.alloc (.cells (cells Z20).toArray 40); have hK6a := hK6.alloc (.cells (cells Z20).toArray 40); have hI6 := BlkV.new_at w6 w6.heap.size 40 (cells Z20) _ rfl rfl; have hb6a := hb6w.alloc hb6w.size (.cells (cells Z20).toArray 40)))
  | ((with_reducible refine wpList_st rfl 40 (.tmp 6) (.tmp 14) rfl w6.heap.size 0 (cells I) rfl rfl 40 _ hI6 (by rw [length_cells, length_cells, HIL.out, Z20_len]; omega) (row20 (by rw [length_cells]; exact HIL.out)) (cells_one _) ?_); intro w7 hI7 ho7; rw [splice_all _ _ (by rw [length_cells, length_cells, HIL.out, Z20_len])] at hI7; have hlt6 := hR6.lt; have hlt6k := hK6.lt; have hR7 := hR6a.only ho7 (by omega); have hK7 := hK6a.only ho7 (by omega); have hb7 := hb6a.trans (ho7.below hb6w.size)))
 have ht7 : TabH w7.drew := tab_below HT.out hb7.drew
 have hK7' : BlkV w7.drew w2.heap.size 141 (cells K) := hK7
 have hR7' : BlkV w7.drew w.heap.size 40 (cells Z20) := hR7
 have hI7' : Blk w7.drew w6.heap.size 40 I := hI7
 have hb7' : Below w.heap.size w w7.drew := hb7.drew
 clear hb7 hK7 hR7 hI7 hR6a hK6a hI6 hb6a hR6 hK6 hb6w hb6 hR5 hK5 ht5 hw5 hp5 hb5 hg5 hR4 hK4 hb4w hb4a hrow hU4a hoffU hU4 hb4 hR3 hb3 hK3 ho3 hR2 hR2a hb2a hK2 hb2w hb2 hb0 hR0 HBL HS1 ho7
 refine wp_region_noPanic ?_
 refine wp_region_any (by kernel_rfl) ?_
 change wpAny _ _ _ _ _ _ _ (World.drew _)
 obtain ⟨wd, hwd⟩ : ∃ wd, wd = w7.drew := ⟨_, rfl⟩
 rw [← hwd] at ht7 hK7' hR7' hI7' hb7' ⊢
 clear hwd
 refine wpAny_take (i := 2) (v := ?_) rfl (by kernel_rfl) (by kernel_rfl) (by kernel_rfl) (fun _ _ _ h => h) (Or.inl ⟨by rfl, ?_⟩) ?_
 case refine_2 => (intro wz; go_simp; with_reducible rfl)
 simp only [Act.put, xgT, xgS, xgZ, xsT, xsS, xsZ]
 refine any_one (i := 0) (by kernel_rfl) rfl rfl (fun H hH => ?_)
 simp only [xgT, xgZ]
 refine wp_ld 141 (.tmp 5) rfl w2.heap.size 0 (by rfl) (cells K) (hK7'.range 0 _ (by simp)) (row64 (by rw [length_cells]; exact HKL.out)) ?_
 refine hH _ _ ?_
 clear hH H
 simp only [Act.put, xsT, xsS, xsZ]
 refine any_one (i := 1) (by kernel_rfl) rfl rfl (fun H hH => ?_)
 simp only [xgT, xgS, xgZ]
 go_simp
 refine (turned_anyM K 92 92 wd HKL.out (by decide)).mono ?_
 rintro e w8 ⟨rfl, hU8, hb8⟩
 refine hH _ _ ?_
 clear hH H
 have hI8 := hI7'.below hb8 hI7'.lt
 have hR8 := hR7'.below hb8 hR7'.lt
 have hb8w := hb7'.trans (hb8.mono hb7'.size)
 refine any_one (i := 3) (by kernel_rfl) rfl rfl (fun H hH => ?_)
 simp only [xgT, xgS, xgZ]
 go_simp
 refine hH _ _ ?_
 clear hH H
 have hrdU := hU8.rd (n := 64) (c := 64) (by rw [xorB_len]; exact HKL.out) (Nat.le_refl _) (by simp [maxLen])
 have hrdI := hI8.rd (n := 20) (c := 20) HIL.out (Nat.le_refl _) (by simp [maxLen])
 have hp9 := parts_lit2 hrdU hrdI 32
 have hb9 := hb8w.alloc hb8w.size (.cells #[.slice (some ⟨wd.heap.size, 0, none⟩) 64 64, .slice (some ⟨w6.heap.size, 0, none⟩) 20 20] 32)
 have hR9 := hR8.alloc (.cells #[.slice (some ⟨wd.heap.size, 0, none⟩) 64 64, .slice (some ⟨w6.heap.size, 0, none⟩) 20 20] 32)
 have ht9 := tab_below HT.out hb9
 refine any_one (i := 4) (by kernel_rfl) rfl rfl (fun H hH => ?_)
 simp only [xgT, xgS, xgZ]
 go_simp
 refine (HS2.out _ _ ht9 (by simp) hp9 2).mono ?_
 rintro e w10 ⟨rfl, hb10⟩
 refine hH _ _ ?_
 clear hH H
 have hR10 := hR9.below hb10 hR9.lt
 have hb10w := hb9.trans (hb10.mono hb9.size)
 refine any_one (i := 5) (by kernel_rfl) rfl rfl (fun H hH => ?_)
 simp only [xgT, xgS, xgZ]
 refine wp_st 40 (.tmp 4) (.tmp 19) rfl w.heap.size 0 (cells F) (by rfl) (by rfl) 40 _ hR10 (by rw [length_cells, length_cells, HFL.out, Z20_len]; omega) (row20 (by rw [length_cells]; exact HFL.out)) (cells_one _) ?_
 intro w11 hB11 ho11
 refine hH _ _ ?_
 clear hH H
 refine wpAny_done (by kernel_rfl) ?_ _
 refine NoPanic.normal ?_
 rw [splice_all _ _ (by rw [length_cells, length_cells, HFL.out, Z20_len])] at hB11
 have hfin := hb10w.trans (ho11.below (Nat.le_refl _))
 simp only [Act.put]
 go_wp2
 exact ret_row (by rfl) (by rfl) hB11 (row20 (by rw [length_cells]; exact HFL.out)) (by rfl) ⟨rfl, hfin⟩
def cutN (n : Int) : Nat := if n < 1 then 0 else if 20 < n then 20 else n.toNat
def tagB (n : Int) (full : List UInt8) : List UInt8 := full.take (cutN n)
theorem cutN_low {n : Int} (h : n < 1) : cutN n = 0 := by simp [cutN, h]
theorem cutN_high {n : Int} (h : 20 < n) : cutN n = 20 := by unfold cutN; rw [if_neg (by omega), if_pos h]
theorem cutN_mid (n : Nat) (h : 1 ≤ n) (h2 : n ≤ 20) : cutN (n : Int) = n := by unfold cutN; rw [if_neg (by omega), if_neg (by omega)]; simp
theorem RdS.head {w : World} {A : Option Addr} {n c : Nat} {bs : List UInt8} (h : RdS w A n c bs) (m d : Nat) (hm : m ≤ n) (hd : m ≤ d) (hdc : d ≤ c) : RdS w A m d (bs.take m) := by
 obtain ⟨h1, h2, h3, h4, h5⟩ := h
 refine ⟨by rw [List.length_take]; omega, hd, by omega, fun h0 => by have := h4 h0; omega, fun hn => ?_⟩
 obtain ⟨b, off, hA, hlt, hc⟩ := h5 (by omega)
 refine ⟨b, off, hA, hlt, fun j hj => ?_⟩
 rw [hc j (by omega)]
 simp [List.getD, hj]

set_option maxHeartbeats 1000000 in
theorem tag_any (A : Option Addr) (nb c : Nat) (key : List UInt8) (n : Int) (ad : Addr) (k cp : Nat) (ps : List (List UInt8)) (w : World) (ht : TabH w) (hw : 0 < w.heap.size) (hr : RdS w A nb c key) (hle : nb ≤ 100000)
 (hn : -9223372036854775808 ≤ n ∧ n ≤ 9223372036854775807) (hp : PartsRd w (some ad) k ps) (hk : k ≤ 1000) (hpl : ps.flatten.length ≤ 100000) :
 Calls Tryz.prog 31 #[.slice A nb c, .int .i64 n, .slice (some ad) k cp] w fun e w' => ∃ A', e = .returned (.slice A' (cutN n) (cutN n)) ∧ RdS w' A' (cutN n) (cutN n) (tagB n (macFull key ps.flatten)) ∧ Below w.heap.size w w' := by
 have hwh := whole_any A nb c key ad k cp ps w ht hw hr hle hp hk hpl
 have hz2 := zero20b
 obtain ⟨F, hF⟩ : ∃ F, F = macFull key ps.flatten := ⟨_, rfl⟩
 have hFl : F.length = 20 := by rw [hF]; exact macFull_len _ _
 rw [← hF] at hwh ⊢
 have HW := Lib.hid hwh
 have HF := Lib.hid hFl
 clear hwh hF hFl
 by_cases h1 : n < 1
 · rw [cutN_low h1]
   have e : tagB n F = [] := by rw [tagB, cutN_low h1]; rfl
   rw [e]
   go_enter Tryz.func31, Tryz.ntmps31
   go_wp2
   go_ret
   exact ⟨none, rfl, RdS.nil w, Below.refl _ _⟩
 · by_cases h2 : 20 < n
   · rw [cutN_high h2]
     have e : tagB n F = F := by rw [tagB, cutN_high h2]; exact List.take_of_length_le (by rw [HF.out]; exact Nat.le_refl _)
     rw [e]
     go_enter Tryz.func31, Tryz.ntmps31
     go_wp2_with (first
      | (go_at_call 54; ((with_reducible refine (Hid.out HW).mono ?_); rintro e w2 ⟨rfl, hb2⟩; have hI2 := BlkV.new_at w2 w2.heap.size 40 (cells Z20) _ rfl rfl; have hb2a := hb2.alloc hb2.size (.cells (cells Z20).toArray 40)))
      | ((with_reducible refine wpList_st rfl 40 (.tmp 7) (.tmp 14) rfl w2.heap.size 0 (cells F) rfl rfl 40 _ hI2 (by rw [length_cells, length_cells, HF.out, Z20_len]; omega) (row20 (by rw [length_cells]; exact HF.out)) (cells_one _) ?_); intro w3 hB3 ho3; rw [splice_all _ _ (by rw [length_cells, length_cells, HF.out, Z20_len])] at hB3; have hb3 := hb2a.trans (ho3.below hb2.size); have hrd3 := (show Blk w3 w2.heap.size 40 F from hB3).rd (n := 20) (c := 20) HF.out (Nat.le_refl _) (by simp [maxLen])))
     go_ret
     exact ⟨_, rfl, hrd3, hb3⟩
   · obtain ⟨m, rfl⟩ := Int.eq_ofNat_of_zero_le (show 0 ≤ n by omega)
     rw [cutN_mid m (by omega) (by omega)]
     have e : tagB (m : Int) F = F.take m := by rw [tagB, cutN_mid m (by omega) (by omega)]
     rw [e]
     have hm : m ≤ 20 := by omega
     go_enter Tryz.func31, Tryz.ntmps31
     go_wp2_with (first
      | (go_at_call 54; ((with_reducible refine (Hid.out HW).mono ?_); rintro e w2 ⟨rfl, hb2⟩; have hI2 := BlkV.new_at w2 w2.heap.size 40 (cells Z20) _ rfl rfl; have hb2a := hb2.alloc hb2.size (.cells (cells Z20).toArray 40)))
      | ((with_reducible refine wpList_st rfl 40 (.tmp 7) (.tmp 14) rfl w2.heap.size 0 (cells F) rfl rfl 40 _ hI2 (by rw [length_cells, length_cells, HF.out, Z20_len]; omega) (row20 (by rw [length_cells]; exact HF.out)) (cells_one _) ?_); intro w3 hB3 ho3; rw [splice_all _ _ (by rw [length_cells, length_cells, HF.out, Z20_len])] at hB3; have hb3 := hb2a.trans (ho3.below hb2.size); have hrd3 := (show Blk w3 w2.heap.size 40 F from hB3).rd (n := 20) (c := 20) HF.out (Nat.le_refl _) (by simp [maxLen])))
     go_ret
     exact ⟨_, rfl, hrd3.head m m hm (Nat.le_refl _) hm, hb3⟩
end Go.Proofs.YtheefckohnaceaaGreatDoor
