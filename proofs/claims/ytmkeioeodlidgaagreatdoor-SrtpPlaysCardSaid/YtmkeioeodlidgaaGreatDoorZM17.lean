/- Several texts in one: plain words and walks. No statement is proved here. -/
import Derived.Test.YtmkeioeodlidgaaGreatDoorZM16
import Derived.Test.YtmkeioeodlidgaaGreatDoorZM4
import Derived.Test.YtmkeioeodlidgaaGreatDoorZM0
import Derived.Deep.RegionLaw
namespace Go.Proofs.YtmkeioeodlidgaaGreatDoor
open Go.RowKit
set_option linter.unusedVariables false

theorem rread_results (tmps : Array Value) (w : World) (g : Nat) (cs : List Value) (x y : Value) (hp : tmps.getD 2 undef = .pointer (some ⟨g, 0, none⟩)) (hx : tmps.getD 3 undef = x) (hy : tmps.getD 4 undef = y) (hg : BlkV w g 37 cs) (hl : cs.length = 11) :
 (results Tryz.f39 tmps).run Tryz.prog w = .ok (.tuple #[.agg cs.toArray, x, y]) w := by
 have hp' : tmps[2]?.getD undef = .pointer (some ⟨g, 0, none⟩) := by simpa using hp
 have hx' : tmps[3]?.getD undef = x := by simpa using hx
 have hy' : tmps[4]?.getD undef = y := by simpa using hy
 obtain ⟨d, h1, h2, h3⟩ := row11 hl
 have hld := run_loadVar_row (P := Tryz.prog) w g 37 37 cs.toArray (0, 0) d hg h1 (by cases d <;> simp_all) (by simpa using h3)
 simp [results, Tryz.results39, hp', hx', hy', asAddr, hld]

theorem zlen : zeroC.length = 11 := rfl
theorem fitz : 0 + zeroC.length ≤ zeroC.length := Nat.le_refl 11
theorem zone : ∀ v ∈ zeroC, v.oneCell' = true := rtpC_one _ _ _ _ _ _ _ _ _ _ _ _ _ _ _ _ _
abbrev rboxW (w : World) : World := (w.alloc (.cells zeroC.toArray 37)).alloc (.cells zeroC.toArray 37)
theorem rbox (w : World) : Below w.heap.size w (rboxW w) ∧ BlkV (rboxW w) w.heap.size 37 zeroC ∧ BlkV (rboxW w) (w.heap.size + 1) 37 zeroC :=
 ⟨((Below.refl _ _).alloc (Nat.le_refl _) _).alloc (by simp) _, (BlkV.new _ _ _).alloc _, BlkV.new_at _ _ _ _ _ (by simp) rfl⟩

set_option maxRecDepth 100000 in
set_option maxHeartbeats 4000000 in
theorem rread_long (A : Option Addr) (n c : Nat) (w : World) (hs : n ≤ 9223372036854775807) (hm : 1200 < n) :
 Calls Tryz.prog 39 #[.slice A n c] w fun e w' => e = .returned (.tuple #[.agg zeroC.toArray, .int .i64 0, .int .i64 3]) ∧ Below w.heap.size w w' := by
 have hz := zero28
 obtain ⟨hb, h1, h2⟩ := rbox w
 have H1 := Lib.hid h1
 have H2 := Lib.hid h2
 have HB := Lib.hid hb
 clear h1 h2 hb
 go_enter Tryz.func39, Tryz.ntmps39
 go_wp2_with (first
  | (with_reducible refine wpList_ld rfl 37 (.tmp 5) rfl (w.heap.size + 1) 0 rfl zeroC (H2.out.range 0 _ (fun i _ => by rw [Nat.zero_add])) (row11 zlen) ?_)
  | ((with_reducible refine wpList_st rfl 37 (.tmp 2) (.tmp 16) rfl w.heap.size 0 zeroC rfl rfl 37 zeroC H1.out fitz (row11 zlen) zone ?_); intro w3 hB3 ho3; rw [splice_all _ _ (by rfl)] at hB3))
 exact bodyPost_ret (rread_results _ w3 _ zeroC _ _ (by rfl) (by rfl) (by rfl) hB3 rfl) (by rfl) ⟨rfl, HB.out.trans (ho3.below (Nat.le_refl _))⟩
/- ways -/
set_option maxRecDepth 100000 in
set_option maxHeartbeats 4000000 in
theorem rread_short (A : Option Addr) (n c : Nat) (bs : List UInt8) (w : World) (hr : RdS w A n c bs) (hm : ¬ 1200 < n) (h12 : n < 12) :
 Calls Tryz.prog 39 #[.slice A n c] w fun e w' => e = .returned (.tuple #[.agg zeroC.toArray, .int .i64 0, .int .i64 2]) ∧ Below w.heap.size w w' := by
 have hz := zero28
 have hs := hr.small
 have hl := hr.len
 obtain ⟨hb, h1, h2⟩ := rbox w
 have H1 := Lib.hid h1
 have H2 := Lib.hid h2
 have HB := Lib.hid hb
 clear h1 h2 hb
 clear hr
 go_enter Tryz.func39, Tryz.ntmps39
 go_wp2_with (first
  | (with_reducible refine wpList_ld rfl 37 (.tmp 5) rfl (w.heap.size + 1) 0 rfl zeroC (H2.out.range 0 _ (fun i _ => by rw [Nat.zero_add])) (row11 zlen) ?_)
  | ((with_reducible refine wpList_st rfl 37 (.tmp 2) (.tmp 19) rfl w.heap.size 0 zeroC rfl rfl 37 zeroC H1.out fitz (row11 zlen) zone ?_); intro w3 hB3 ho3; rw [splice_all _ _ (by rfl)] at hB3))
 exact bodyPost_ret (rread_results _ w3 _ zeroC _ _ (by rfl) (by rfl) (by rfl) hB3 rfl) (by rfl) ⟨rfl, HB.out.trans (ho3.below (Nat.le_refl _))⟩

set_option maxRecDepth 100000 in
set_option maxHeartbeats 4000000 in
theorem rread_bits (A : Option Addr) (n c : Nat) (bs : List UInt8) (w : World) (hr : RdS w A n c bs) (hm : ¬ 1200 < n) (h12 : ¬ n < 12) (hv : bt bs 0 / 64 ≠ 2) :
 Calls Tryz.prog 39 #[.slice A n c] w fun e w' => e = .returned (.tuple #[.agg zeroC.toArray, .int .i64 0, .int .i64 3]) ∧ Below w.heap.size w w' := by
 have hz := zero28
 have hs := hr.small
 have hl := hr.len
 obtain ⟨hb, h1, h2⟩ := rbox w
 have H1 := Lib.hid h1
 have H2 := Lib.hid h2
 have HB := Lib.hid hb
 clear h1 h2 hb
 obtain ⟨b, off, rfl, hlt, hcs⟩ := hr.2.2.2.2 (by omega)
 have c0 : (rboxW w).cell? ⟨b, off, none⟩ = some (.int .u8 (bt bs 0 : Nat)) := (HB.out.cell (p := ⟨b, off, none⟩) hlt).trans (hcs 0 (by omega))
 have lb := bt_lt bs 0
 obtain ⟨b0, hb0⟩ : ∃ b0, b0 = bt bs 0 := ⟨_, rfl⟩
 rw [← hb0] at c0 lb
 simp only [← hb0] at hv
 have hv2 : ((b0 : Int) / 64 == 2) = false := by simp; omega
 clear hr hcs hb0 hv
 go_enter Tryz.func39, Tryz.ntmps39
 go_wp2_with (first
  | (with_reducible refine wpList_ld rfl 37 (.tmp 5) rfl (w.heap.size + 1) 0 rfl zeroC (H2.out.range 0 _ (fun i _ => by rw [Nat.zero_add])) (row11 zlen) ?_)
  | ((with_reducible refine wpList_st rfl 37 (.tmp 2) (.tmp 25) rfl w.heap.size 0 zeroC rfl rfl 37 zeroC H1.out fitz (row11 zlen) zone ?_); intro w3 hB3 ho3; rw [splice_all _ _ (by rfl)] at hB3))
 exact bodyPost_ret (rread_results _ w3 _ zeroC _ _ (by rfl) (by rfl) (by rfl) hB3 rfl) (by rfl) ⟨rfl, HB.out.trans (ho3.below (Nat.le_refl _))⟩

set_option maxRecDepth 100000 in
set_option maxHeartbeats 4000000 in
theorem rread_lack (A : Option Addr) (n c : Nat) (bs : List UInt8) (w : World) (hr : RdS w A n c bs) (hm : ¬ 1200 < n) (h12 : ¬ n < 12) (hv : bt bs 0 / 64 = 2) (ho : n < at0 bs) :
 Calls Tryz.prog 39 #[.slice A n c] w fun e w' => e = .returned (.tuple #[.agg zeroC.toArray, .int .i64 0, .int .i64 2]) ∧ Below w.heap.size w w' := by
 have hz := zero28
 have hs := hr.small
 have hl := hr.len
 obtain ⟨hb, h1, h2⟩ := rbox w
 have H1 := Lib.hid h1
 have H2 := Lib.hid h2
 have HB := Lib.hid hb
 clear h1 h2 hb
 obtain ⟨b, off, rfl, hlt, hcs⟩ := hr.2.2.2.2 (by omega)
 have c0 : (rboxW w).cell? ⟨b, off, none⟩ = some (.int .u8 (bt bs 0 : Nat)) := (HB.out.cell (p := ⟨b, off, none⟩) hlt).trans (hcs 0 (by omega))
 have lb := bt_lt bs 0
 have hk : ((bt bs 0 : Int) % 16) = (othN bs : Int) := by unfold othN; omega
 have lk : othN bs < 16 := by unfold othN; omega
 unfold at0 at ho
 obtain ⟨K, hK⟩ : ∃ K, K = othN bs := ⟨_, rfl⟩
 rw [← hK] at hk lk ho
 obtain ⟨b0, hb0⟩ : ∃ b0, b0 = bt bs 0 := ⟨_, rfl⟩
 rw [← hb0] at c0 lb
 simp only [← hb0] at hv hk
 have hv2 : ((b0 : Int) / 64 == 2) = true := by simp; omega
 clear hr hcs hb0 hv hK
 go_enter Tryz.func39, Tryz.ntmps39
 go_wp2_with (first
  | (with_reducible refine wpList_ld rfl 37 (.tmp 5) rfl (w.heap.size + 1) 0 rfl zeroC (H2.out.range 0 _ (fun i _ => by rw [Nat.zero_add])) (row11 zlen) ?_)
  | ((with_reducible refine wpList_st rfl 37 (.tmp 2) (.tmp 37) rfl w.heap.size 0 zeroC rfl rfl 37 zeroC H1.out fitz (row11 zlen) zone ?_); intro w3 hB3 ho3; rw [splice_all _ _ (by rfl)] at hB3))
 exact bodyPost_ret (rread_results _ w3 _ zeroC _ _ (by rfl) (by rfl) (by rfl) hB3 rfl) (by rfl) ⟨rfl, HB.out.trans (ho3.below (Nat.le_refl _))⟩

set_option maxRecDepth 100000 in
set_option maxHeartbeats 4000000 in
theorem rread_ext4 (A : Option Addr) (n c : Nat) (bs : List UInt8) (w : World) (hr : RdS w A n c bs) (hm : ¬ 1200 < n) (h12 : ¬ n < 12) (hv : bt bs 0 / 64 = 2) (ho : at0 bs ≤ n) (hx : bt bs 0 / 16 % 2 = 1) (he : n < at0 bs + 4) :
 Calls Tryz.prog 39 #[.slice A n c] w fun e w' => e = .returned (.tuple #[.agg zeroC.toArray, .int .i64 0, .int .i64 2]) ∧ Below w.heap.size w w' := by
 have hz := zero28
 have hs := hr.small
 have hl := hr.len
 obtain ⟨hb, h1, h2⟩ := rbox w
 have H1 := Lib.hid h1
 have H2 := Lib.hid h2
 have HB := Lib.hid hb
 clear h1 h2 hb
 obtain ⟨b, off, rfl, hlt, hcs⟩ := hr.2.2.2.2 (by omega)
 have c0 : (rboxW w).cell? ⟨b, off, none⟩ = some (.int .u8 (bt bs 0 : Nat)) := (HB.out.cell (p := ⟨b, off, none⟩) hlt).trans (hcs 0 (by omega))
 have lb := bt_lt bs 0
 unfold at0 at he
 have hk : ((bt bs 0 : Int) % 16) = (othN bs : Int) := by unfold othN; omega
 have lk : othN bs < 16 := by unfold othN; omega
 unfold at0 at ho
 obtain ⟨K, hK⟩ : ∃ K, K = othN bs := ⟨_, rfl⟩
 rw [← hK] at hk lk ho he
 obtain ⟨b0, hb0⟩ : ∃ b0, b0 = bt bs 0 := ⟨_, rfl⟩
 rw [← hb0] at c0 lb
 simp only [← hb0] at hv hk hx
 have hv2 : ((b0 : Int) / 64 == 2) = true := by simp; omega
 have hx1 : ((b0 : Int) / 16 % 2 == 1) = true := by simp; omega
 clear hr hcs hb0 hv hK hx
 go_enter Tryz.func39, Tryz.ntmps39
 go_wp2_with (first
  | (with_reducible refine wpList_ld rfl 37 (.tmp 5) rfl (w.heap.size + 1) 0 rfl zeroC (H2.out.range 0 _ (fun i _ => by rw [Nat.zero_add])) (row11 zlen) ?_)
  | ((with_reducible refine wpList_st rfl 37 (.tmp 2) (.tmp 48) rfl w.heap.size 0 zeroC rfl rfl 37 zeroC H1.out fitz (row11 zlen) zone ?_); intro w3 hB3 ho3; rw [splice_all _ _ (by rfl)] at hB3))
 exact bodyPost_ret (rread_results _ w3 _ zeroC _ _ (by rfl) (by rfl) (by rfl) hB3 rfl) (by rfl) ⟨rfl, HB.out.trans (ho3.below (Nat.le_refl _))⟩

set_option maxRecDepth 100000 in
set_option maxHeartbeats 4000000 in
theorem rread_extw (A : Option Addr) (n c : Nat) (bs : List UInt8) (w : World) (hr : RdS w A n c bs) (hm : ¬ 1200 < n) (h12 : ¬ n < 12) (hv : bt bs 0 / 64 = 2) (ho : at0 bs ≤ n) (hx : bt bs 0 / 16 % 2 = 1) (h4 : at0 bs + 4 ≤ n) (he : n < at0 bs + 4 + 4 * wordsN bs) :
 Calls Tryz.prog 39 #[.slice A n c] w fun e w' => e = .returned (.tuple #[.agg zeroC.toArray, .int .i64 0, .int .i64 2]) ∧ Below w.heap.size w w' := by
 have hz := zero28
 have hs := hr.small
 have hl := hr.len
 obtain ⟨hb, h1, h2⟩ := rbox w
 have H1 := Lib.hid h1
 have H2 := Lib.hid h2
 have HB := Lib.hid hb
 clear h1 h2 hb
 obtain ⟨b, off, rfl, hlt, hcs⟩ := hr.2.2.2.2 (by omega)
 have c0 : (rboxW w).cell? ⟨b, off, none⟩ = some (.int .u8 (bt bs 0 : Nat)) := (HB.out.cell (p := ⟨b, off, none⟩) hlt).trans (hcs 0 (by omega))
 have lb := bt_lt bs 0
 have lw := words_lt bs
 have hw0 : wordsN bs = numb ((bs.drop (at0 bs + 2)).take 2) := rfl
 have HN2 : Hid (∀ wx, Below w.heap.size w wx → Calls Tryz.prog 56 #[.slice (some ⟨b, off, none⟩) n c, .int .i64 (12 + 4 * (othN bs : Int) + 2), .int .i64 2] wx fun e w' => e = .returned (.int .u64 (wordsN bs : Nat)) ∧ wx = w') := Lib.hid fun wx hb => by
  have := rnum_yes (some ⟨b, off, none⟩) n c bs (at0 bs + 2) 2 wx (hr.below hb) (by omega) (by omega) (by omega)
  rw [show ((at0 bs + 2 : Nat) : Int) = 12 + 4 * (othN bs : Int) + 2 by unfold at0; omega] at this
  exact this
 have hk : ((bt bs 0 : Int) % 16) = (othN bs : Int) := by unfold othN; omega
 have lk : othN bs < 16 := by unfold othN; omega
 unfold at0 at ho he h4
 obtain ⟨K, hK⟩ : ∃ K, K = othN bs := ⟨_, rfl⟩
 rw [← hK] at hk lk ho he HN2 h4
 obtain ⟨W, hW⟩ : ∃ W, W = wordsN bs := ⟨_, rfl⟩
 simp only [← hW] at HN2 lw he 
 obtain ⟨b0, hb0⟩ : ∃ b0, b0 = bt bs 0 := ⟨_, rfl⟩
 rw [← hb0] at c0 lb
 simp only [← hb0] at hv hk hx
 have hv2 : ((b0 : Int) / 64 == 2) = true := by simp; omega
 have hx1 : ((b0 : Int) / 16 % 2 == 1) = true := by simp; omega
 clear hr hcs hb0 hv hK hx hW hw0
 go_enter Tryz.func39, Tryz.ntmps39
 go_wp2_with (first
  | (go_at_call 56; ((with_reducible refine (Hid.out HN2 _ HB.out).mono ?_); rintro e wq ⟨rfl, rfl⟩))
  | (with_reducible refine wpList_ld rfl 37 (.tmp 5) rfl (w.heap.size + 1) 0 rfl zeroC (H2.out.range 0 _ (fun i _ => by rw [Nat.zero_add])) (row11 zlen) ?_)
  | ((with_reducible refine wpList_st rfl 37 (.tmp 2) (.tmp 61) rfl w.heap.size 0 zeroC rfl rfl 37 zeroC H1.out fitz (row11 zlen) zone ?_); intro w3 hB3 ho3; rw [splice_all _ _ (by rfl)] at hB3))
 exact bodyPost_ret (rread_results _ w3 _ zeroC _ _ (by rfl) (by rfl) (by rfl) hB3 rfl) (by rfl) ⟨rfl, HB.out.trans (ho3.below (Nat.le_refl _))⟩

set_option maxRecDepth 100000 in
set_option maxHeartbeats 4000000 in
theorem rread_extl (A : Option Addr) (n c : Nat) (bs : List UInt8) (w : World) (hr : RdS w A n c bs) (hm : ¬ 1200 < n) (h12 : ¬ n < 12) (hv : bt bs 0 / 64 = 2) (ho : at0 bs ≤ n) (hx : bt bs 0 / 16 % 2 = 1) (he : at0 bs + 4 + 4 * wordsN bs ≤ n) (hw : 255 < wordsN bs) :
 Calls Tryz.prog 39 #[.slice A n c] w fun e w' => e = .returned (.tuple #[.agg zeroC.toArray, .int .i64 0, .int .i64 3]) ∧ Below w.heap.size w w' := by
 have hz := zero28
 have hs := hr.small
 have hl := hr.len
 obtain ⟨hb, h1, h2⟩ := rbox w
 have H1 := Lib.hid h1
 have H2 := Lib.hid h2
 have HB := Lib.hid hb
 clear h1 h2 hb
 obtain ⟨b, off, rfl, hlt, hcs⟩ := hr.2.2.2.2 (by omega)
 have c0 : (rboxW w).cell? ⟨b, off, none⟩ = some (.int .u8 (bt bs 0 : Nat)) := (HB.out.cell (p := ⟨b, off, none⟩) hlt).trans (hcs 0 (by omega))
 have lb := bt_lt bs 0
 have lw := words_lt bs
 have hw0 : wordsN bs = numb ((bs.drop (at0 bs + 2)).take 2) := rfl
 have HN2 : Hid (∀ wx, Below w.heap.size w wx → Calls Tryz.prog 56 #[.slice (some ⟨b, off, none⟩) n c, .int .i64 (12 + 4 * (othN bs : Int) + 2), .int .i64 2] wx fun e w' => e = .returned (.int .u64 (wordsN bs : Nat)) ∧ wx = w') := Lib.hid fun wx hb => by
  have := rnum_yes (some ⟨b, off, none⟩) n c bs (at0 bs + 2) 2 wx (hr.below hb) (by omega) (by omega) (by omega)
  rw [show ((at0 bs + 2 : Nat) : Int) = 12 + 4 * (othN bs : Int) + 2 by unfold at0; omega] at this
  exact this
 have hk : ((bt bs 0 : Int) % 16) = (othN bs : Int) := by unfold othN; omega
 have lk : othN bs < 16 := by unfold othN; omega
 unfold at0 at ho he
 obtain ⟨K, hK⟩ : ∃ K, K = othN bs := ⟨_, rfl⟩
 rw [← hK] at hk lk ho he HN2
 obtain ⟨W, hW⟩ : ∃ W, W = wordsN bs := ⟨_, rfl⟩
 simp only [← hW] at HN2 lw he hw
 obtain ⟨b0, hb0⟩ : ∃ b0, b0 = bt bs 0 := ⟨_, rfl⟩
 rw [← hb0] at c0 lb
 simp only [← hb0] at hv hk hx
 have hv2 : ((b0 : Int) / 64 == 2) = true := by simp; omega
 have hx1 : ((b0 : Int) / 16 % 2 == 1) = true := by simp; omega
 clear hr hcs hb0 hv hK hx hW hw0
 go_enter Tryz.func39, Tryz.ntmps39
 go_wp2_with (first
  | (go_at_call 56; ((with_reducible refine (Hid.out HN2 _ HB.out).mono ?_); rintro e wq ⟨rfl, rfl⟩))
  | (with_reducible refine wpList_ld rfl 37 (.tmp 5) rfl (w.heap.size + 1) 0 rfl zeroC (H2.out.range 0 _ (fun i _ => by rw [Nat.zero_add])) (row11 zlen) ?_)
  | ((with_reducible refine wpList_st rfl 37 (.tmp 2) (.tmp 64) rfl w.heap.size 0 zeroC rfl rfl 37 zeroC H1.out fitz (row11 zlen) zone ?_); intro w3 hB3 ho3; rw [splice_all _ _ (by rfl)] at hB3))
 exact bodyPost_ret (rread_results _ w3 _ zeroC _ _ (by rfl) (by rfl) (by rfl) hB3 rfl) (by rfl) ⟨rfl, HB.out.trans (ho3.below (Nat.le_refl _))⟩

set_option maxRecDepth 100000 in
set_option maxHeartbeats 4000000 in
theorem rread_padno0 (A : Option Addr) (n c : Nat) (bs : List UInt8) (w : World) (hr : RdS w A n c bs) (hm : ¬ 1200 < n) (h12 : ¬ n < 12) (hv : bt bs 0 / 64 = 2) (ho : at0 bs ≤ n) (hx : bt bs 0 / 16 % 2 = 0) (hp : bt bs 0 / 32 % 2 = 1) (hq : at0 bs = n ∨ bt bs (n - 1) = 0 ∨ n - at0 bs < bt bs (n - 1)) :
 Calls Tryz.prog 39 #[.slice A n c] w fun e w' => e = .returned (.tuple #[.agg zeroC.toArray, .int .i64 0, .int .i64 3]) ∧ Below w.heap.size w w' := by
 have hz := zero28
 have hs := hr.small
 have hl := hr.len
 obtain ⟨hb, h1, h2⟩ := rbox w
 have H1 := Lib.hid h1
 have H2 := Lib.hid h2
 have HB := Lib.hid hb
 clear h1 h2 hb
 obtain ⟨b, off, rfl, hlt, hcs⟩ := hr.2.2.2.2 (by omega)
 have c0 : (rboxW w).cell? ⟨b, off, none⟩ = some (.int .u8 (bt bs 0 : Nat)) := (HB.out.cell (p := ⟨b, off, none⟩) hlt).trans (hcs 0 (by omega))
 have lb := bt_lt bs 0
 have cl : (rboxW w).cell? ⟨b, off + (n - 1), none⟩ = some (.int .u8 (bt bs (n - 1) : Nat)) := (HB.out.cell (p := ⟨b, off + (n - 1), none⟩) hlt).trans (hcs (n - 1) (by omega))
 have ll := bt_lt bs (n - 1)
 have e3 : ((n : Int) - 1) = ((n - 1 : Nat) : Int) := by omega
 unfold at0 at hq
 have hk : ((bt bs 0 : Int) % 16) = (othN bs : Int) := by unfold othN; omega
 have lk : othN bs < 16 := by unfold othN; omega
 unfold at0 at ho
 obtain ⟨K, hK⟩ : ∃ K, K = othN bs := ⟨_, rfl⟩
 rw [← hK] at hk lk ho hq
 obtain ⟨b0, hb0⟩ : ∃ b0, b0 = bt bs 0 := ⟨_, rfl⟩
 rw [← hb0] at c0 lb
 simp only [← hb0] at hv hk hx hp
 have hv2 : ((b0 : Int) / 64 == 2) = true := by simp; omega
 have hx1 : ((b0 : Int) / 16 % 2 == 1) = false := by simp; omega
 have hp1 : ((b0 : Int) / 32 % 2 == 1) = true := by simp; omega
 obtain ⟨L, hL⟩ : ∃ L, L = bt bs (n - 1) := ⟨_, rfl⟩
 simp only [← hL] at cl ll hq
 have hq1 : ((12 + 4 * (K : Int)) == (n : Int)) = true ∨ (((12 + 4 * (K : Int)) == (n : Int)) = false ∧ ((L : Int) == 0) = true) ∨ (((12 + 4 * (K : Int)) == (n : Int)) = false ∧ ((L : Int) == 0) = false ∧ (n : Int) - (12 + 4 * (K : Int)) < (L : Int)) := by
  by_cases q1 : 12 + 4 * K = n
  · exact .inl (by simp; omega)
  · by_cases q2 : L = 0
    · exact .inr (.inl ⟨by simp; omega, by simp; omega⟩)
    · exact .inr (.inr ⟨by simp; omega, by simp; omega, by omega⟩)
 clear hr hcs hb0 hv hK hx hp hL hq
 rcases hq1 with q1 | ⟨q1, q2⟩ | ⟨q1, q2, q3⟩
 · go_enter Tryz.func39, Tryz.ntmps39
   go_wp2_with (first
    | ((with_reducible refine wpList_st rfl 37 (.tmp 2) (.tmp 115) rfl w.heap.size 0 zeroC rfl rfl 37 zeroC H1.out fitz (row11 zlen) zone ?_); intro w3 hB3 ho3; rw [splice_all _ _ (by rfl)] at hB3))
   exact bodyPost_ret (rread_results _ w3 _ zeroC _ _ (by rfl) (by rfl) (by rfl) hB3 rfl) (by rfl) ⟨rfl, HB.out.trans (ho3.below (Nat.le_refl _))⟩
 · go_enter Tryz.func39, Tryz.ntmps39
   go_wp2_with (first
    | ((with_reducible refine wpList_st rfl 37 (.tmp 2) (.tmp 115) rfl w.heap.size 0 zeroC rfl rfl 37 zeroC H1.out fitz (row11 zlen) zone ?_); intro w3 hB3 ho3; rw [splice_all _ _ (by rfl)] at hB3))
   exact bodyPost_ret (rread_results _ w3 _ zeroC _ _ (by rfl) (by rfl) (by rfl) hB3 rfl) (by rfl) ⟨rfl, HB.out.trans (ho3.below (Nat.le_refl _))⟩
 · go_enter Tryz.func39, Tryz.ntmps39
   go_wp2_with (first
    | ((with_reducible refine wpList_st rfl 37 (.tmp 2) (.tmp 115) rfl w.heap.size 0 zeroC rfl rfl 37 zeroC H1.out fitz (row11 zlen) zone ?_); intro w3 hB3 ho3; rw [splice_all _ _ (by rfl)] at hB3))
   exact bodyPost_ret (rread_results _ w3 _ zeroC _ _ (by rfl) (by rfl) (by rfl) hB3 rfl) (by rfl) ⟨rfl, HB.out.trans (ho3.below (Nat.le_refl _))⟩

structure Under (w wr : World) (m : Bool) (ty sq st so : Nat) (U : List Nat) (A : Option Addr) (a : Nat) (x : Bool) (pf : Nat) (X : List UInt8) (B : Option Addr) (b : Nat) (Y : List UInt8) (D : Option Addr) (d pd : Nat) : Prop where
 blk : BlkV wr (w.heap.size + 1) 37 (rtpC m ty sq st so (.slice A U.length a) x pf (.slice B X.length b) (.slice D Y.length d) pd)
 res : BlkV wr w.heap.size 37 zeroC
 ou : wr.ownsRow (w.heap.size + 2) 33 1 (.slice A U.length a) U.length (ucells U)
 ox : wr.ownsRow (w.heap.size + 2) 5 1 (.slice B X.length b) X.length (cells X)
 oy : wr.ownsRow (w.heap.size + 2) 5 1 (.slice D Y.length d) Y.length (cells Y)
 bel : Below w.heap.size w wr
 siz : w.heap.size + 2 ≤ wr.heap.size
section
variable {w wr w' : World} {m : Bool} {ty sq st so : Nat} {U : List Nat} {A : Option Addr} {a : Nat} {x : Bool} {pf : Nat} {X : List UInt8} {B : Option Addr} {b : Nat} {Y : List UInt8} {D : Option Addr} {d pd : Nat}
theorem Under.drew (h : Under w wr m ty sq st so U A a x pf X B b Y D d pd) : Under w wr.drew m ty sq st so U A a x pf X B b Y D d pd := ⟨h.blk, h.res, h.ou, h.ox, h.oy, h.bel.drew, h.siz⟩
theorem under_start (w : World) : Under w (rboxW w) false 0 0 0 0 [] none 0 false 0 [] none 0 [] none 0 0 := by
 obtain ⟨hb, h1, h2⟩ := rbox w
 exact ⟨h2, h1, World.ownsRow_nil _ _ _ _, World.ownsRow_nil _ _ _ _, World.ownsRow_nil _ _ _ _, hb, by simp [rboxW]⟩
theorem Under.put (h : Under w wr m ty sq st so U A a x pf X B b Y D d pd) (j : Nat) (v : Value) {m2 : Bool} {ty2 sq2 st2 so2 : Nat} {x2 : Bool} {pf2 pd2 : Nat}
 (hj : (rtpC m ty sq st so (.slice A U.length a) x pf (.slice B X.length b) (.slice D Y.length d) pd).set j v = rtpC m2 ty2 sq2 st2 so2 (.slice A U.length a) x2 pf2 (.slice B X.length b) (.slice D Y.length d) pd2) :
 Under w (wr.setCell ⟨w.heap.size + 1, j, none⟩ v) m2 ty2 sq2 st2 so2 U A a x2 pf2 X B b Y D d pd2 := by
 have ho := Only.set wr (w.heap.size + 1) j v
 refine ⟨?_, h.res.only ho (by omega), own_only h.ou ho (by omega), own_only h.ox ho (by omega), own_only h.oy ho (by omega), h.bel.setCell (by simp) _, by rw [ho.size]; exact h.siz⟩
 rw [← hj]
 exact h.blk.set_ j v
theorem Under.putU (h : Under w wr m ty sq st so U A a x pf X B b Y D d pd) {U2 : List Nat} {A2 : Option Addr} {a2 : Nat} (hg : wr.grownBy w' (Value.slice A U.length a).ownBlock)
 (hown : w'.ownsRow (w.heap.size + 2) 33 1 (.slice A2 U2.length a2) U2.length (ucells U2)) (hX : ∀ q, (Value.slice A U.length a).ownBlock = some q → (Value.slice B X.length b).ownBlock ≠ some q) (hY : ∀ q, (Value.slice A U.length a).ownBlock = some q → (Value.slice D Y.length d).ownBlock ≠ some q) :
 Under w (w'.setCell ⟨w.heap.size + 1, 5, none⟩ (.slice A2 U2.length a2)) m ty sq st so U2 A2 a2 x pf X B b Y D d pd := by
 have ho := Only.set w' (w.heap.size + 1) 5 (.slice A2 U2.length a2)
 have hq : ∀ q, (Value.slice A U.length a).ownBlock = some q → w.heap.size + 2 ≤ q := fun q hq => (h.ou.lt q hq).1
 refine ⟨(h.blk.grown hg (fun e => by have := hq _ e.symm; omega)).set_ 5 _, (h.res.grown hg (fun e => by have := hq _ e.symm; omega)).only ho (by omega), own_only hown ho (by omega), own_only (h.ox.kept hg ?_) ho (by omega), own_only (h.oy.kept hg ?_) ho (by omega), ?_, ?_⟩
 · rcases hv : (Value.slice A U.length a).ownBlock with _ | q
   · rcases hv2 : (Value.slice B X.length b).ownBlock with _ | q2
     · exact .inl rfl
     · exact .inr (by simp)
   · exact .inr (hX q hv)
 · rcases hv : (Value.slice A U.length a).ownBlock with _ | q
   · rcases hv2 : (Value.slice D Y.length d).ownBlock with _ | q2
     · exact .inl rfl
     · exact .inr (by simp)
   · exact .inr (hY q hv)
 · exact (h.bel.trans (below_of_grown hg h.bel.size (fun k hk => by have := hq k hk; omega))).setCell (by simp) _
 · rw [ho.size]; exact Nat.le_trans h.siz hg.size
theorem Under.putX (h : Under w wr m ty sq st so U A a x pf [] none 0 Y D d pd) {X2 : List UInt8} {B2 : Option Addr} {b2 : Nat} (hg : Below wr.heap.size wr w')
 (hown : w'.ownsRow (w.heap.size + 2) 5 1 (.slice B2 X2.length b2) X2.length (cells X2)) :
 Under w (w'.setCell ⟨w.heap.size + 1, 8, none⟩ (.slice B2 X2.length b2)) m ty sq st so U A a x pf X2 B2 b2 Y D d pd := by
 have ho := Only.set w' (w.heap.size + 1) 8 (.slice B2 X2.length b2)
 exact ⟨(h.blk.below hg h.blk.lt).set_ 8 _, (h.res.below hg h.res.lt).only ho (by omega), own_only (own_belowR h.ou hg) ho (by omega), own_only hown ho (by omega), own_only (own_belowR h.oy hg) ho (by omega),
  (h.bel.trans (hg.mono h.bel.size)).setCell (by simp) _, by rw [ho.size]; exact Nat.le_trans h.siz hg.size⟩
theorem Under.putY (h : Under w wr m ty sq st so U A a x pf X B b [] none 0 pd) {Y2 : List UInt8} {D2 : Option Addr} {d2 : Nat} (hg : Below wr.heap.size wr w')
 (hown : w'.ownsRow (w.heap.size + 2) 5 1 (.slice D2 Y2.length d2) Y2.length (cells Y2)) :
 Under w (w'.setCell ⟨w.heap.size + 1, 9, none⟩ (.slice D2 Y2.length d2)) m ty sq st so U A a x pf X B b Y2 D2 d2 pd := by
 have ho := Only.set w' (w.heap.size + 1) 9 (.slice D2 Y2.length d2)
 exact ⟨(h.blk.below hg h.blk.lt).set_ 9 _, (h.res.below hg h.res.lt).only ho (by omega), own_only (own_belowR h.ou hg) ho (by omega), own_only (own_belowR h.ox hg) ho (by omega), own_only hown ho (by omega),
  (h.bel.trans (hg.mono h.bel.size)).setCell (by simp) _, by rw [ho.size]; exact Nat.le_trans h.siz hg.size⟩
end

end Go.Proofs.YtmkeioeodlidgaaGreatDoor
