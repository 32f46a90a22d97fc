/- Several texts in one: Contracts of package srtp: a row turned behind its header (turned). The document's way of layer 15 (tenailleref15.Way): an index marked in one of its windows, a source more, a use more. What the document's answer for layer 10 (tenailleref10) writes. What the document's answer for layer 10 (tenailleref10) writes, with no extension. What the document's answer for layer 10 (tenailleref10) writes, or that it may not be. What the document's way of layer 15 (tenailleref15.Way) tells of a packet to be sealed (Seal). Contracts of package mac: Check. No statement is proved here. -/
import Derived.Test.YtmkeioeodlidgaaDoorZM24
import Derived.Test.YtmkeioeodlidgaaDoorZM16
import Derived.Test.YtmkeioeodlidgaaDoorZM21
import Derived.Test.YtmkeioeodlidgaaDoorZM23
import Derived.Test.YtmkeioeodlidgaaDoorZM5
import Derived.Deep.DeepCutAuto
import Derived.Test.YtmkeioeodlidgaaDoorZM6
import Derived.Test.YtmkeioeodlidgaaDoorZM20
import Derived.StillTailTactics
import Derived.Test.YtmkeioeodlidgaaDoorZM9
namespace Go.Proofs.YtmkeioeodlidgaaDoor
open Go.RowKit
set_option linter.unusedVariables false

theorem concat2_own (W : World) (A1 A2 : Option Addr) (n1 n2 c1 c2 M : Nat) (p1 p2 BB : List UInt8) (h1 : RdS W A1 n1 c1 p1) (h2 : RdS W A2 n2 c2 p2) (hB : BB = p1 ++ p2) (hM : M = BB.length) (hle : M ≤ 100000) :
    Calls Tryd.prog 34 #[.slice (some ⟨W.heap.size, 0, none⟩) 2 2] (W.alloc (.cells #[.slice A1 n1 c1, .slice A2 n2 c2] 22)) fun e w' => ∃ A' c', e = .returned (.slice A' M c') ∧ BO W w' A' M c' BB := by
  have hf : [p1, p2].flatten = BB := by rw [hB]; simp
  have hfl : [p1, p2].flatten.length = M := by rw [hf, hM]
  refine (concat_any _ 2 2 [p1, p2] _ (parts2 W A1 A2 n1 n2 c1 c2 p1 p2 _ h1 h2) (by omega) (by omega)).mono ?_
  rintro e w' ⟨A', c', rfl, hb⟩
  rw [hfl, hf] at hb
  rw [hfl]
  exact ⟨A', c', rfl, own_mono hb.1 (by rw [← size_alloc]; omega), ((Below.refl _ _).alloc (Nat.le_refl _) _).trans (hb.2.mono (by rw [← size_alloc]; omega))⟩
/-- A row is being turned: the way, the row, the first counter's block. -/
structure TE (w : World) (g b : Nat) (y : Wy) (A : Option Addr) (n c : Nat) (bs fc : List UInt8) (q : Nat) (wx : World) : Prop where
  way : PWay wx g b y
  rd : RdS wx A n c bs
  fb : Blk wx q 34 fc
  below : Below w.heap.size w wx
theorem TE.on {w wx wy : World} {g b : Nat} {y : Wy} {A : Option Addr} {n c : Nat} {bs fc : List UInt8} {q : Nat} (h : TE w g b y A n c bs fc q wx) (hb : Below wx.heap.size wx wy) : TE w g b y A n c bs fc q wy :=
  ⟨h.way.below hb, h.rd.below hb, h.fb.below hb h.fb.lt, h.below.trans (hb.mono h.below.size)⟩
theorem TE.key {w wx : World} {g b : Nat} {y : Wy} {A : Option Addr} {n c : Nat} {bs fc : List UInt8} {q : Nat} (h : TE w g b y A n c bs fc q wx) (hf : y.fit) : wx.rangeAt g 0 (cells y.key) :=
  h.way.bk.range 0 _ (fun i hi => by
    have hk := (ks_at y hf).1 i hi
    rw [length_cells, hf.1] at hi
    rw [List.getElem?_append_left (by rw [length_cells, Wy.ks_len hf]; omega)]
    exact hk)
theorem PWay.salt {w : World} {g b : Nat} {y : Wy} (h : PWay w g b y) (hf : y.fit) : w.rangeAt g 36 (cells y.salt) :=
  h.bk.range 36 _ (fun i hi => by
    have hk := (ks_at y hf).2 i hi
    rw [length_cells, hf.2.2.1] at hi
    rw [List.getElem?_append_left (by rw [length_cells, Wy.ks_len hf]; omega)]
    exact hk)
set_option maxRecDepth 100000 in
set_option maxHeartbeats 1000000 in
theorem turned15_any (g b : Nat) (y : Wy) (A : Option Addr) (n c : Nat) (bs : List UInt8) (so i : Nat) (w : World) (h : PWay w g b y) (hf : y.fit) (hr : RdS w A n c bs) (h1 : 1 ≤ n) (hn : n ≤ 4000) (hat : at1 bs ≤ n) (hso : so < 4294967296) (hi : i < 281474976710656) :
    Calls Tryd.prog 20 #[.pointer (some ⟨g, 0, none⟩), .slice A n c, .int .u32 (so : Int), .int .i64 (i : Int)] w fun e w' => ∃ A' c', e = .returned (.slice A' n c') ∧ BO w w' A' n c' (turnW y bs (at1 bs) so i) := by
  have hl := hr.len
  have hle := hr.le
  have hmx := hr.max
  have hz16 := zero16
  have HHS := Lib.hid (headSize15_any A n c bs w hr h1 (by omega))
  have HAT := Lib.hid hat
  have HW := Lib.hid h
  have HF := Lib.hid hf
  have HR := Lib.hid hr
  obtain ⟨H, hH⟩ : ∃ H, H = at1 bs := ⟨_, rfl⟩
  rw [← hH] at HHS HAT hat ⊢
  have HSA := Lib.hid (h.salt hf)
  have HSL : Hid ((cells y.salt).length = 14) := Lib.hid (by rw [length_cells, hf.2.2.1])
  have HKL : Hid ((cells y.key).length = 16) := Lib.hid (by rw [length_cells, hf.1])
  have ew : IntKind.u64.wrap (i : Int) = (i : Int) := by rw [IntKind.wrap_u64]; omega
  have hfl := firstC_len y.salt so i hf.2.2.1
  have HFC := Lib.hid (fun W => first_any y.salt so i W hf.2.2.1 hso (by omega))
  have HTL := turnW_len y bs H so i n hl hat
  have HC : Hid (∀ W A c, RdS W A (n - H) c (bs.drop H) → Calls Tryd.prog 35 #[.agg (cells y.key).toArray, .agg (cells (firstC y.salt so i)).toArray, .slice A (n - H) c] W fun e w' => ∃ v, e = .returned v ∧ w'.ownsRow W.heap.size 5 1 v (n - H) (cells (cph y.key (firstC y.salt so i) (bs.drop H))) ∧ Below W.heap.size W w') := Lib.hid (fun W A c hr => cipher_any y.key _ A (n - H) c _ W hf.1 hfl hr (by omega))
  have HCC : Hid (∀ W A1 c1 A2 c2, RdS W A1 H c1 (bs.take H) → RdS W A2 (n - H) c2 (cph y.key (firstC y.salt so i) (bs.drop H)) → Calls Tryd.prog 34 #[.slice (some ⟨W.heap.size, 0, none⟩) 2 2] (W.alloc (.cells #[.slice A1 H c1, .slice A2 (n - H) c2] 22)) fun e w' => ∃ A' c', e = .returned (.slice A' n c') ∧ BO W w' A' n c' (turnW y bs H so i)) := Lib.hid (fun W A1 c1 A2 c2 x1 x2 => concat2_own W A1 A2 H (n - H) c1 c2 n _ _ _ x1 x2 rfl HTL.symm (by omega))
  obtain ⟨TW, hTW⟩ : ∃ x, x = turnW y bs H so i := ⟨_, rfl⟩
  rw [← hTW] at HCC ⊢
  obtain ⟨fc, hfc⟩ : ∃ x, x = firstC y.salt so i := ⟨_, rfl⟩
  rw [← hfc] at HFC HC HCC hfl
  have HFL : Hid ((cells fc).length = 16) := Lib.hid (by rw [length_cells, hfl])
  have HZL : Hid ((cells Z16).length = 16) := Lib.hid (by rw [length_cells, Z16_len])
  obtain ⟨AL, eL, eL2, hrl⟩ := run_lo A n c H (H : Int) rfl hat hle hmx
  have HRL := Lib.hid hrl
  have hhc : H ≤ c := by omega
  have hcm : c ≤ 9223372036854775807 := hr.small.2
  clear h hf hr hl hmx hH hTW hfc hfl HTL hrl
  go_enter Tryd.func20, Tryd.ntmps20
  go_upto_region 3 with (first
    | (go_at_call 12; ((with_reducible refine (HHS.out).mono ?_); rintro e w' ⟨⟨h, rfl, k1, k2, k3⟩, rfl⟩; have eh : H = h := (k1 HAT.out).symm; subst eh; clear k1 k2 k3))
    | (with_reducible refine wpList_ld rfl 35 (.tmp 16) rfl g 36 rfl (cells y.salt) HSA.out (row14 HSL.out) ?_)
    | (go_at_call 33; ((with_reducible refine (HFC.out _).mono ?_); rintro e w1 ⟨rfl, hb1⟩; have HB1 := Lib.hid hb1; have hI1 := BlkV.new_at w1 w1.heap.size 34 (cells Z16) _ rfl rfl; clear hb1))
    | ((with_reducible refine wpList_st rfl 34 (.tmp 10) (.tmp 21) rfl w1.heap.size 0 (cells fc) rfl rfl 34 _ hI1 (by rw [HFL.out, HZL.out]; omega) (row16 HFL.out) (cells_one _) ?_); intro w2 hB2 ho2; rw [splice_all _ _ (by rw [HFL.out, HZL.out])] at hB2; have HB2 := Lib.hid hB2; have HO2 := Lib.hid ho2; clear hB2 ho2))
  have HS2 : Hid (TE w g b y A n c bs fc w1.heap.size w2) := Lib.hid (by
    have hb2 : Below w1.heap.size w1 w2 := ((Below.refl _ _).alloc (Nat.le_refl _) _).trans (HO2.out.below (Nat.le_refl _))
    have hbw := HB1.out.trans (hb2.mono HB1.out.size)
    exact ⟨HW.out.below hbw, HR.out.below hbw, HB2.out, hbw⟩)
  clear HB1 HB2 HO2 HW HR HSA hI1
  refine wp_region_noPanic ?_
  refine wp_region_held (S := fun wx => TE w g b y A n c bs fc w1.heap.size wx) (by kernel_rfl) ?_
  change wpAnyH _ _ _ _ _ _ _ _ (World.drew _)
  obtain ⟨w3, hw3⟩ : ∃ x, x = w2.drew := ⟨_, rfl⟩
  rw [← hw3]
  have hS : TE w g b y A n c bs fc w1.heap.size w3 := hw3 ▸ HS2.out.on (Below.refl _ _).drew
  clear hw3 HS2
  refine wpAnyH_take (i := 0) (v := ?_) rfl (by kernel_rfl) (by kernel_rfl) (by kernel_rfl) (fun _ _ _ h => h) (Or.inl ⟨by rfl, ?_⟩) hS ?_
  case refine_2 => (intro wz hz; go_simp; with_reducible rfl)
  simp only [Act.put, List.getElem_toArray, List.getElem_cons_zero, List.setIfInBounds_toArray, List.set_cons_succ, List.set_cons_zero]
  refine wpAnyH_take (i := 1) (v := ?_) rfl (by kernel_rfl) (by kernel_rfl) (by kernel_rfl) (fun _ _ _ h => h) (Or.inl ⟨by rfl, ?_⟩) hS ?_
  case refine_2 => (intro wz hz; go_simp; with_reducible rfl)
  simp only [Act.put, List.getElem_toArray, List.getElem_cons_succ, List.getElem_cons_zero, List.setIfInBounds_toArray, List.set_cons_succ, List.set_cons_zero]
  refine wpAnyH_take (i := 2) (v := ?_) rfl (by kernel_rfl) (by kernel_rfl) (by kernel_rfl) (fun _ _ _ h => h) (Or.inl ⟨by rfl, ?_⟩) hS ?_
  case refine_2 => (intro wz hz; go_simp; with_reducible rfl)
  simp only [Act.put, List.getElem_toArray, List.getElem_cons_succ, List.getElem_cons_zero, List.setIfInBounds_toArray, List.set_cons_succ, List.set_cons_zero]
  refine wpAnyH_take (i := 3) (v := ?_) rfl (by kernel_rfl) (by kernel_rfl) (by kernel_rfl) (fun _ _ _ h => h) (Or.inl ⟨by rfl, ?_⟩) hS ?_
  case refine_2 => (intro wz hz; go_simp; with_reducible rfl)
  simp only [Act.put, List.getElem_toArray, List.getElem_cons_succ, List.getElem_cons_zero, List.setIfInBounds_toArray, List.set_cons_succ, List.set_cons_zero]
  refine wpAnyH_take (i := 4) (v := ?_) rfl (by kernel_rfl) (by kernel_rfl) (by kernel_rfl) (fun _ _ _ h => h) (Or.inl ⟨by rfl, ?_⟩) hS ?_
  case refine_2 => (intro wz hz; go_simp; with_reducible rfl)
  simp only [Act.put, List.getElem_toArray, List.getElem_cons_succ, List.getElem_cons_zero, List.setIfInBounds_toArray, List.set_cons_succ, List.set_cons_zero]
  refine wpAnyH_take (i := 5) (v := ?_) rfl (by kernel_rfl) (by kernel_rfl) (by kernel_rfl) (fun _ _ _ h => h) (Or.inl ⟨by rfl, ?_⟩) hS ?_
  case refine_2 => (intro wz hz; go_simp; with_reducible rfl)
  simp only [Act.put, List.getElem_toArray, List.getElem_cons_succ, List.getElem_cons_zero, List.setIfInBounds_toArray, List.set_cons_succ, List.set_cons_zero]
  refine wpAnyH_take (i := 6) (v := ?_) rfl (by kernel_rfl) (by kernel_rfl) (by kernel_rfl) (fun _ _ _ h => h) (Or.inl ⟨by rfl, ?_⟩) hS ?_
  case refine_2 => (intro wz hz; go_simp; with_reducible rfl)
  simp only [Act.put, List.getElem_toArray, List.getElem_cons_succ, List.getElem_cons_zero, List.setIfInBounds_toArray, List.set_cons_succ, List.set_cons_zero]
  refine wpAnyH_take (i := 7) (v := .agg (cells y.key).toArray) rfl (by kernel_rfl) (by kernel_rfl) (by kernel_rfl) (fun _ _ _ h => h) (Or.inl ⟨by rfl, fun wz hz => ?_⟩) hS ?_
  · (exact run_ld 34 _ rfl g 0 (by rfl) (cells y.key) (hz.key HF.out) (row16 HKL.out))
  simp only [Act.put, List.getElem_toArray, List.getElem_cons_succ, List.getElem_cons_zero, List.setIfInBounds_toArray, List.set_cons_succ, List.set_cons_zero]
  refine wpAnyH_take (i := 8) (v := .agg (cells fc).toArray) rfl (by kernel_rfl) (by kernel_rfl) (by kernel_rfl) (fun _ _ _ h => h) (Or.inl ⟨by rfl, fun wz hz => ?_⟩) hS ?_
  · (exact run_ld 34 _ rfl w1.heap.size 0 (by rfl) (cells fc) (hz.fb.v.range 0 _ (by simp)) (row16 HFL.out))
  simp only [Act.put, List.getElem_toArray, List.getElem_cons_succ, List.getElem_cons_zero, List.setIfInBounds_toArray, List.set_cons_succ, List.set_cons_zero]
  refine wpAnyH_take (i := 9) (v := ?_) rfl (by kernel_rfl) (by kernel_rfl) (by kernel_rfl) (fun _ _ _ h => h) (Or.inl ⟨by rfl, ?_⟩) hS ?_
  case refine_2 => (intro wz hz; go_simp; with_reducible rfl)
  simp only [Act.put, List.getElem_toArray, List.getElem_cons_succ, List.getElem_cons_zero, List.setIfInBounds_toArray, List.set_cons_succ, List.set_cons_zero]
  refine wpAnyH_take (i := 10) (v := ?_) rfl (by kernel_rfl) (by kernel_rfl) (by kernel_rfl) (fun _ _ _ h => h) (Or.inl ⟨by rfl, ?_⟩) hS ?_
  case refine_2 => (intro wz hz; go_simp; with_reducible rfl)
  simp only [Act.put, List.getElem_toArray, List.getElem_cons_succ, List.getElem_cons_zero, List.setIfInBounds_toArray, List.set_cons_succ, List.set_cons_zero]
  refine wpAnyH_take (i := 11) (v := ?_) rfl (by kernel_rfl) (by kernel_rfl) (by kernel_rfl) (fun _ _ _ h => h) (Or.inl ⟨by rfl, ?_⟩) hS ?_
  case refine_2 => (intro wz hz; go_simp; with_reducible rfl)
  simp only [Act.put, List.getElem_toArray, List.getElem_cons_succ, List.getElem_cons_zero, List.setIfInBounds_toArray, List.set_cons_succ, List.set_cons_zero]
  refine anyH_one (i := 12) (by kernel_rfl) rfl rfl (fun HH hH => ?_)
  simp only [List.getElem_toArray, List.getElem_cons_succ, List.getElem_cons_zero]
  go_simp
  refine (HC.out w3 AL (c - H) (HRL.out _ _ hS.rd)).mono ?_
  rintro e w5 ⟨v5, rfl, ho5, hb5⟩
  obtain ⟨A5, c5, hv5⟩ := own_formN ho5
  subst hv5
  have hS5 : TE w g b y A n c bs fc w1.heap.size w5 := hS.on hb5
  have HR5 := Lib.hid (RdS.of_own ho5)
  refine hH _ _ hS5 ?_
  clear hH hS hb5 ho5
  refine anyH_one (i := 13) (by kernel_rfl) rfl rfl (fun HH hH => ?_)
  simp only [List.getElem_toArray, List.getElem_cons_succ, List.getElem_cons_zero]
  go_simp
  have hS6 : TE w g b y A n c bs fc w1.heap.size (w5.alloc (.cells #[.slice A H c, .slice A5 (n - H) c5] 22)) := hS5.on ((Below.refl _ _).alloc (Nat.le_refl _) _)
  refine hH _ _ hS6 ?_
  clear hH
  refine anyH_one (i := 14) (by kernel_rfl) rfl rfl (fun HH hH => ?_)
  simp only [List.getElem_toArray, List.getElem_cons_succ, List.getElem_cons_zero]
  go_simp
  refine (HCC.out w5 A c A5 c5 (hS5.rd.headR H (by omega)) HR5.out).mono ?_
  rintro e w7 ⟨A7, c7, rfl, ho7⟩
  have hS7 : TE w g b y A n c bs fc w1.heap.size w7 := hS5.on ho7.2
  have HO7 : Hid (BO w w7 A7 n c7 TW) := Lib.hid ⟨own_mono ho7.1 hS5.below.size, hS7.below⟩
  refine hH _ _ hS7 ?_
  clear hH hS5 hS6
  refine wpAnyH_take (i := 15) (v := ?_) rfl (by kernel_rfl) (by kernel_rfl) (by kernel_rfl) (fun _ _ _ h => h) (Or.inl ⟨by rfl, ?_⟩) hS7 ?_
  case refine_2 => (intro wz hz; go_simp; with_reducible rfl)
  simp only [Act.put, List.getElem_toArray, List.getElem_cons_succ, List.getElem_cons_zero, List.setIfInBounds_toArray, List.set_cons_succ, List.set_cons_zero]
  refine wpAnyH_done (by kernel_rfl) ?_ _
  refine NoPanic.normal ?_
  go_wp2
  go_ret
  exact ⟨A7, c7, rfl, HO7.out⟩
end Go.Proofs.YtmkeioeodlidgaaDoor

namespace Go.Proofs.YtmkeioeodlidgaaDoor
open Go.RowKit
set_option linter.unusedVariables false

theorem own_ne2 {w : World} {base base' s s' n n' : Nat} {e e' : TypeId} {v v' : Value} {xs xs' : List Value} (h : w.ownsRow base e s v n xs) (h' : w.ownsRow base' e' s' v' n' xs') (hne : e ≠ e') : ∀ k, v.ownBlock = some k → v'.ownBlock ≠ some k := by
  intro k hk hk'
  rcases h.2 with ⟨rfl, _⟩ | ⟨g, cap, cur, rfl, _, hg, _⟩
  · simp [Value.ownBlock] at hk
  rcases h'.2 with ⟨rfl, _⟩ | ⟨g', cap', cur', rfl, _, hg', _⟩
  · simp [Value.ownBlock] at hk'
  simp [Value.ownBlock] at hk hk'
  subst hk
  subst hk'
  rw [hg] at hg'
  simp at hg'
  exact hne hg'.2
theorem blk_ne {w : World} {g g' : Nat} {e e' : TypeId} {cs cs' : List Value} (h : BlkV w g e cs) (h' : BlkV w g' e' cs') (hne : e ≠ e') : g ≠ g' := by
  rintro rfl
  unfold BlkV at h h'
  rw [h] at h'
  simp at h'
  exact hne h'.2
section
variable {w w2 : World} {g : Nat} {y : Wy} {nm ww : Value} {r : Nat → Nat} {v : Nat → Value}
theorem nmC_set (ws : List (Nat × List Int)) (i : Nat) (L : List Int) : nmC (ws.set i ((ws.getD i (0, [])).1, L)) = nmC ws := by
  refine List.ext_getElem? fun j => ?_
  by_cases hj : j < ws.length
  · rw [nmC_at (by simpa using hj), nmC_at hj]
    congr 2
    simp only [List.getD, List.getElem?_set]
    by_cases e : i = j
    · subst e; simp [hj]
    · rw [if_neg e]
  · rw [List.getElem?_eq_none (by rw [nmC_len, List.length_set]; omega), List.getElem?_eq_none (by rw [nmC_len]; omega)]
theorem nmC_more (ws : List (Nat × List Int)) (x : Nat) : nmC (ws ++ [(x, [])]) = nmC ws ++ [.int .u32 (x : Int)] := by simp [nmC, ucells]
theorem ptC_more (r : Nat → Nat) (m q : Nat) : ptC (fun j => if j = m then q else r j) (m + 1) = ptC r m ++ [.pointer (some ⟨q, 0, none⟩)] := by
  unfold ptC
  rw [List.range_succ, List.map_append, List.map_singleton]
  show List.map _ (List.range m) ++ [Value.pointer (some ⟨if m = m then q else r m, 0, none⟩)] = _
  rw [if_pos rfl]
  congr 1
  refine List.map_congr_left fun a ha => ?_
  show Value.pointer (some ⟨if a = m then q else r a, 0, none⟩) = _
  rw [if_neg (by have := List.mem_range.1 ha; omega)]
end
end Go.Proofs.YtmkeioeodlidgaaDoor

namespace Go.Proofs.YtmkeioeodlidgaaDoor
open Go.RowKit
set_option linter.unusedVariables false

/-- A number is put behind bytes by the document's answer, in a row of the call's own. -/
theorem own_loW {w : World} {base base' n : Nat} {e : TypeId} {v : Value} {xs : List Value} (h : w.ownsRow base e 1 v n xs) (hb : base' ≤ base) : w.ownsRow base' e 1 v n xs :=
  ⟨h.1, h.2.imp id fun ⟨g, cap, cur, hv, hg, r⟩ => ⟨g, cap, cur, hv, Nat.le_trans hb hg, r⟩⟩
theorem rd_one (w : World) (n : Nat) (h : n < 256) : RdS (w.alloc (.cells #[.int .u8 (n : Int)] 5)) (some ⟨w.heap.size, 0, none⟩) 1 1 [UInt8.ofNat n] := by
  have e : (#[.int .u8 (n : Int)] : Array Value) = (cells [UInt8.ofNat n]).toArray := by
    simp only [cells, List.map_cons, List.map_nil, UInt8.toNat_ofNat']
    rw [Nat.mod_eq_of_lt (by omega)]
  rw [e]
  exact (Blk.new w 5 [UInt8.ofNat n]).rd rfl (Nat.le_refl _) (by simp [maxLen])
/-- The two first bytes in a new block. -/
theorem two_own (W : World) (b F G : Nat) (hF : F < 256) (hG : G < 256) (hb : b ≤ W.heap.size) : (W.alloc (.cells #[.int .u8 (F : Int), .int .u8 (G : Int)] 5)).ownsRow b 5 1 (.slice (some ⟨W.heap.size, 0, none⟩) 2 2) 2 (cells (beb 1 F ++ beb 1 G)) := by
  have e : cells (beb 1 F ++ beb 1 G) = [.int .u8 (F : Int), .int .u8 (G : Int)] := by
    rw [beb_one, beb_one]
    simp only [cells, List.singleton_append, List.map_cons, List.map_nil, UInt8.toNat_ofNat']
    rw [Nat.mod_eq_of_lt (by omega), Nat.mod_eq_of_lt (by omega)]
  rw [e]
  exact World.ownsRow_lit W #[.int .u8 (F : Int), .int .u8 (G : Int)] 2 hb (by simp [maxLen]) rfl

end Go.Proofs.YtmkeioeodlidgaaDoor

namespace Go.Proofs.YtmkeioeodlidgaaDoor
open Go.RowKit
set_option linter.unusedVariables false

end Go.Proofs.YtmkeioeodlidgaaDoor

namespace Go.Proofs.YtmkeioeodlidgaaDoor
open Go.RowKit
set_option linter.unusedVariables false

end Go.Proofs.YtmkeioeodlidgaaDoor

namespace Go.Proofs.YtmkeioeodlidgaaDoor
open Go.RowKit
set_option linter.unusedVariables false

/-- What is sealed of a packet by an index; the way behind it. -/
noncomputable def outSeal (y : Wy) (p : Pkt) (i : Int) : List UInt8 := if whySeal y p i = 0 then sealB y (wrB p) (at1 (wrB p)) p.so i.toNat else []
noncomputable def ySeal (y : Wy) (p : Pkt) (i : Int) : Wy := if whySeal y p i = 0 then y.once else y
/-- What Seal tells, of any kind of ways. -/
def SealR (R : World → Value → Wy → (Nat → Prop) → Prop) (p : Value) (y : Wy) (F : Nat → Prop) (pk : Pkt) (i : Int) (w : World) (e : Ending) (w' : World) : Prop :=
  ∃ A n c F', e = .returned (.tuple #[.slice A n c, .int .i64 (whySeal y pk i)]) ∧ w'.ownsRow w.heap.size 5 1 (.slice A n c) n (cells (outSeal y pk i)) ∧ (∀ k, (Value.slice A n c).ownBlock = some k → ¬ F' k) ∧ R w' p (ySeal y pk i) F' ∧ Fr F w w' ∧ ∀ k, F' k → F k ∨ w.heap.size ≤ k
theorem SealR.no {R : World → Value → Wy → (Nat → Prop) → Prop} {p : Value} {y : Wy} {F : Nat → Prop} {pk : Pkt} {i : Int} {w w' : World} {q : Int} (hR : Lone R) (h : R w p y F) (hw : whySeal y pk i = q) (hq : q ≠ 0) (hb : Below w.heap.size w w') :
    SealR R p y F pk i w (.returned (.tuple #[.slice none 0 0, .int .i64 q])) w' := by
  refine ⟨none, 0, 0, F, by rw [hw], ?_, (fun k hk => nomatch hk), ?_, Fr.of_below hb, (fun k hk => .inl hk)⟩
  · unfold outSeal
    rw [hw, if_neg hq]
    exact World.ownsRow_nil _ _ _ _
  · unfold ySeal
    rw [hw, if_neg hq]
    exact hR.below h hb
theorem why7 {y : Wy} {pk : Pkt} {i : Int} (h : y.limit ≤ y.used) : whySeal y pk i = 7 := by unfold whySeal; rw [if_pos h]
theorem why1 {y : Wy} {pk : Pkt} {i : Int} (h : ¬ y.limit ≤ y.used) (h2 : ¬ mayW pk i) : whySeal y pk i = 1 := by unfold whySeal; rw [if_neg h, if_pos h2]
theorem why0 {y : Wy} {pk : Pkt} {i : Int} (h : ¬ y.limit ≤ y.used) (h2 : mayW pk i) : whySeal y pk i = 0 := by unfold whySeal; rw [if_neg h, if_neg (fun h3 => h3 h2)]
theorem PkRd.sq_so {w : World} {cs : List Value} {p : Pkt} (h : PkRd w cs p) : cs[2]? = some (.int .u16 (p.sq : Int)) ∧ cs[4]? = some (.int .u32 (p.so : Int)) := by
  obtain ⟨A, a, B, b, D, d, e, _⟩ := h
  subst e
  exact ⟨rfl, rfl⟩
theorem i64_mod (i : Int) (h : 0 ≤ i) : Int.tmod i 65536 = i % 65536 := Int.tmod_eq_emod_of_nonneg h
end Go.Proofs.YtmkeioeodlidgaaDoor

namespace Go.Proofs.YtmkeioeodlidgaaDoor
open Go.RowKit
set_option linter.unusedVariables false

set_option maxHeartbeats 1000000 in
theorem check_any (A : Option Addr) (nb c : Nat) (key : List UInt8) (B : Option Addr) (nt ct : Nat) (tag : List UInt8) (ad : Addr) (k cp : Nat) (ps : List (List UInt8)) (w : World) (ht : TabH w) (hw : 0 < w.heap.size) (hr : RdS w A nb c key) (hle : nb ≤ 100000)
    (hrt : RdS w B nt ct tag) (hp : PartsRd w (some ad) k ps) (hk : k ≤ 1000) (hpl : ps.flatten.length ≤ 100000) (t : Bool) (htt : t = decide (1 ≤ nt ∧ nt ≤ 20 ∧ tag = (macFull key ps.flatten).take nt)) :
    Calls Tryd.prog 40 #[.slice A nb c, .slice B nt ct, .slice (some ad) k cp] w fun e w' => e = .returned (.bool t) ∧ Below w.heap.size w w' := by
  have hs := hrt.small
  by_cases h0 : nt < 1
  · have e0 : t = false := by rw [htt]; simp; omega
    subst e0
    have hd : (nt : Int) < 1 := by omega
    go_enter Tryd.func40, Tryd.ntmps40
    go_wp2
    go_ret
    exact ⟨rfl, Below.refl _ _⟩
  by_cases h1 : 20 < nt
  · have e0 : t = false := by rw [htt]; simp; omega
    subst e0
    have hd : (20 : Int) < (nt : Int) := by omega
    have hd1 : decide ((nt : Int) < 1) = false := by simp; omega
    go_enter Tryd.func40, Tryd.ntmps40
    go_wp2
    go_ret
    exact ⟨rfl, Below.refl _ _⟩
  have hd : decide ((20 : Int) < (nt : Int)) = false := by simp; omega
  have hd1 : decide ((nt : Int) < 1) = false := by simp; omega
  have htg := tag_any A nb c key (nt : Int) ad k cp ps w ht hw hr hle (by omega) hp hk hpl
  have hcm := cutN_mid nt (by omega) (by omega)
  have e : tagB (nt : Int) (macFull key ps.flatten) = (macFull key ps.flatten).take nt := by rw [tagB, hcm]
  rw [hcm, e] at htg
  have htt' : t = decide (tag = (macFull key ps.flatten).take nt) := by
    rw [htt]
    congr 1
    simp only [eq_iff_iff]
    exact ⟨fun h => h.2.2, fun h => ⟨by omega, by omega, h⟩⟩
  obtain ⟨T, hT⟩ : ∃ T, T = (macFull key ps.flatten).take nt := ⟨_, rfl⟩
  rw [← hT] at htg htt'
  have HT := Lib.hid htg
  have HE := Lib.hid htt'
  clear htg htt' htt e hcm hT h0 h1
  go_enter Tryd.func40, Tryd.ntmps40
  go_wp2_with (first
    | (go_at_call 21; ((with_reducible refine (Hid.out HT).mono ?_); rintro e w2 ⟨A', rfl, hrd, hb2⟩; have hrt2 := hrt.below hb2))
    | (go_at_call 58; ((with_reducible refine (same_any B nt ct tag A' nt nt T w2 hrt2 hrd t HE.out).mono ?_); rintro e w' ⟨rfl, rfl⟩)))
  go_ret
  exact ⟨rfl, hb2⟩
end Go.Proofs.YtmkeioeodlidgaaDoor
