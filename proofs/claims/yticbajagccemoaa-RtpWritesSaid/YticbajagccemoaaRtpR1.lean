/- What the document's answer for layer 10 (tenailleref10) reads: where bytes are no packet. No statement is proved here. -/
import Derived.Test.YticbajagccemoaaRtp8
import Derived.Test.YticbajagccemoaaOctRef
namespace Go.Proofs.Yticbajagccemoaa
open Go.RowKit
set_option linter.unusedVariables false

theorem rread_results (tmps : Array Value) (w : World) (g : Nat) (cs : List Value) (x y : Value) (hp : tmps.getD 2 undef = .pointer (some ⟨g, 0, none⟩)) (hx : tmps.getD 3 undef = x) (hy : tmps.getD 4 undef = y) (hg : BlkV w g 28 cs) (hl : cs.length = 11) :
    (results Try.f9 tmps).run Try.prog w = .ok (.tuple #[.agg cs.toArray, x, y]) w := by
  have hp' : tmps[2]?.getD undef = .pointer (some ⟨g, 0, none⟩) := by simpa using hp
  have hx' : tmps[3]?.getD undef = x := by simpa using hx
  have hy' : tmps[4]?.getD undef = y := by simpa using hy
  obtain ⟨d, h1, h2, h3⟩ := row11 hl
  have hld := run_loadVar_row (P := Try.prog) w g 28 28 cs.toArray (0, 0) d hg h1 (by cases d <;> simp_all) (by simpa using h3)
  simp [results, Try.results9, hp', hx', hy', asAddr, hld]

theorem zlen : zeroC.length = 11 := rfl
theorem fitz : 0 + zeroC.length ≤ zeroC.length := Nat.le_refl 11
theorem zone : ∀ v ∈ zeroC, v.oneCell' = true := rtpC_one _ _ _ _ _ _ _ _ _ _ _ _ _ _ _ _ _
abbrev rboxW (w : World) : World := (w.alloc (.cells zeroC.toArray 28)).alloc (.cells zeroC.toArray 28)
theorem rbox (w : World) : Below w.heap.size w (rboxW w) ∧ BlkV (rboxW w) w.heap.size 28 zeroC ∧ BlkV (rboxW w) (w.heap.size + 1) 28 zeroC :=
  ⟨((Below.refl _ _).alloc (Nat.le_refl _) _).alloc (by simp) _, (BlkV.new _ _ _).alloc _, BlkV.new_at _ _ _ _ _ (by simp) rfl⟩

set_option maxRecDepth 100000 in
set_option maxHeartbeats 4000000 in
theorem rread_long (A : Option Addr) (n c : Nat) (w : World) (hs : n ≤ 9223372036854775807) (hm : 1200 < n) :
    Calls Try.prog 9 #[.slice A n c] w fun e w' => e = .returned (.tuple #[.agg zeroC.toArray, .int .i64 0, .int .i64 3]) ∧ Below w.heap.size w w' := by
  have hz := zero28
  obtain ⟨hb, h1, h2⟩ := rbox w
  have H1 := Lib.hid h1
  have H2 := Lib.hid h2
  have HB := Lib.hid hb
  clear h1 h2 hb
  go_enter Try.func9, Try.ntmps9
  go_wp2_with (first
    | (with_reducible refine wpList_ld rfl 28 (.tmp 5) rfl (w.heap.size + 1) 0 rfl zeroC (H2.out.range 0 _ (fun i _ => by rw [Nat.zero_add])) (row11 zlen) ?_)
    | ((with_reducible refine wpList_st rfl 28 (.tmp 2) (.tmp 16) rfl w.heap.size 0 zeroC rfl rfl 28 zeroC H1.out fitz (row11 zlen) zone ?_); intro w3 hB3 ho3; rw [splice_all _ _ (by rfl)] at hB3))
  exact bodyPost_ret (rread_results _ w3 _ zeroC _ _ (by rfl) (by rfl) (by rfl) hB3 rfl) (by rfl) ⟨rfl, HB.out.trans (ho3.below (Nat.le_refl _))⟩
/- ways -/
set_option maxRecDepth 100000 in
set_option maxHeartbeats 4000000 in
theorem rread_short (A : Option Addr) (n c : Nat) (bs : List UInt8) (w : World) (hr : RdS w A n c bs) (hm : ¬ 1200 < n) (h12 : n < 12) :
    Calls Try.prog 9 #[.slice A n c] w fun e w' => e = .returned (.tuple #[.agg zeroC.toArray, .int .i64 0, .int .i64 2]) ∧ Below w.heap.size w w' := by
  have hz := zero28
  have hs := hr.small
  have hl := hr.len
  obtain ⟨hb, h1, h2⟩ := rbox w
  have H1 := Lib.hid h1
  have H2 := Lib.hid h2
  have HB := Lib.hid hb
  clear h1 h2 hb
  clear hr
  go_enter Try.func9, Try.ntmps9
  go_wp2_with (first
    | (with_reducible refine wpList_ld rfl 28 (.tmp 5) rfl (w.heap.size + 1) 0 rfl zeroC (H2.out.range 0 _ (fun i _ => by rw [Nat.zero_add])) (row11 zlen) ?_)
    | ((with_reducible refine wpList_st rfl 28 (.tmp 2) (.tmp 19) rfl w.heap.size 0 zeroC rfl rfl 28 zeroC H1.out fitz (row11 zlen) zone ?_); intro w3 hB3 ho3; rw [splice_all _ _ (by rfl)] at hB3))
  exact bodyPost_ret (rread_results _ w3 _ zeroC _ _ (by rfl) (by rfl) (by rfl) hB3 rfl) (by rfl) ⟨rfl, HB.out.trans (ho3.below (Nat.le_refl _))⟩

set_option maxRecDepth 100000 in
set_option maxHeartbeats 4000000 in
theorem rread_bits (A : Option Addr) (n c : Nat) (bs : List UInt8) (w : World) (hr : RdS w A n c bs) (hm : ¬ 1200 < n) (h12 : ¬ n < 12) (hv : bt bs 0 / 64 ≠ 2) :
    Calls Try.prog 9 #[.slice A n c] w fun e w' => e = .returned (.tuple #[.agg zeroC.toArray, .int .i64 0, .int .i64 3]) ∧ Below w.heap.size w w' := by
  have hz := zero28
  have hs := hr.small
  have hl := hr.len
  obtain ⟨hb, h1, h2⟩ := rbox w
  have H1 := Lib.hid h1
  have H2 := Lib.hid h2
  have HB := Lib.hid hb
  clear h1 h2 hb
  obtain ⟨b, off, rfl, hlt, hcs⟩ := hr.2.2.2.2 (by omega)
  have c0 : (rboxW w).cell? ⟨b, off, none⟩ = some (.int .u8 (bt bs 0 : Nat)) := (HB.out.cell (p := ⟨b, off, none⟩) hlt).trans (hcs 0 (by omega))
  have lb := bt_lt bs 0
  obtain ⟨b0, hb0⟩ : ∃ b0, b0 = bt bs 0 := ⟨_, rfl⟩
  rw [← hb0] at c0 lb
  simp only [← hb0] at hv
  have hv2 : ((b0 : Int) / 64 == 2) = false := by simp; omega
  clear hr hcs hb0 hv
  go_enter Try.func9, Try.ntmps9
  go_wp2_with (first
    | (with_reducible refine wpList_ld rfl 28 (.tmp 5) rfl (w.heap.size + 1) 0 rfl zeroC (H2.out.range 0 _ (fun i _ => by rw [Nat.zero_add])) (row11 zlen) ?_)
    | ((with_reducible refine wpList_st rfl 28 (.tmp 2) (.tmp 25) rfl w.heap.size 0 zeroC rfl rfl 28 zeroC H1.out fitz (row11 zlen) zone ?_); intro w3 hB3 ho3; rw [splice_all _ _ (by rfl)] at hB3))
  exact bodyPost_ret (rread_results _ w3 _ zeroC _ _ (by rfl) (by rfl) (by rfl) hB3 rfl) (by rfl) ⟨rfl, HB.out.trans (ho3.below (Nat.le_refl _))⟩

set_option maxRecDepth 100000 in
set_option maxHeartbeats 4000000 in
theorem rread_lack (A : Option Addr) (n c : Nat) (bs : List UInt8) (w : World) (hr : RdS w A n c bs) (hm : ¬ 1200 < n) (h12 : ¬ n < 12) (hv : bt bs 0 / 64 = 2) (ho : n < at0 bs) :
    Calls Try.prog 9 #[.slice A n c] w fun e w' => e = .returned (.tuple #[.agg zeroC.toArray, .int .i64 0, .int .i64 2]) ∧ Below w.heap.size w w' := by
  have hz := zero28
  have hs := hr.small
  have hl := hr.len
  obtain ⟨hb, h1, h2⟩ := rbox w
  have H1 := Lib.hid h1
  have H2 := Lib.hid h2
  have HB := Lib.hid hb
  clear h1 h2 hb
  obtain ⟨b, off, rfl, hlt, hcs⟩ := hr.2.2.2.2 (by omega)
  have c0 : (rboxW w).cell? ⟨b, off, none⟩ = some (.int .u8 (bt bs 0 : Nat)) := (HB.out.cell (p := ⟨b, off, none⟩) hlt).trans (hcs 0 (by omega))
  have lb := bt_lt bs 0
  have hk : ((bt bs 0 : Int) % 16) = (othN bs : Int) := by unfold othN; omega
  have lk : othN bs < 16 := by unfold othN; omega
  unfold at0 at ho
  obtain ⟨K, hK⟩ : ∃ K, K = othN bs := ⟨_, rfl⟩
  rw [← hK] at hk lk ho
  obtain ⟨b0, hb0⟩ : ∃ b0, b0 = bt bs 0 := ⟨_, rfl⟩
  rw [← hb0] at c0 lb
  simp only [← hb0] at hv hk
  have hv2 : ((b0 : Int) / 64 == 2) = true := by simp; omega
  clear hr hcs hb0 hv hK
  go_enter Try.func9, Try.ntmps9
  go_wp2_with (first
    | (with_reducible refine wpList_ld rfl 28 (.tmp 5) rfl (w.heap.size + 1) 0 rfl zeroC (H2.out.range 0 _ (fun i _ => by rw [Nat.zero_add])) (row11 zlen) ?_)
    | ((with_reducible refine wpList_st rfl 28 (.tmp 2) (.tmp 37) rfl w.heap.size 0 zeroC rfl rfl 28 zeroC H1.out fitz (row11 zlen) zone ?_); intro w3 hB3 ho3; rw [splice_all _ _ (by rfl)] at hB3))
  exact bodyPost_ret (rread_results _ w3 _ zeroC _ _ (by rfl) (by rfl) (by rfl) hB3 rfl) (by rfl) ⟨rfl, HB.out.trans (ho3.below (Nat.le_refl _))⟩

set_option maxRecDepth 100000 in
set_option maxHeartbeats 4000000 in
theorem rread_ext4 (A : Option Addr) (n c : Nat) (bs : List UInt8) (w : World) (hr : RdS w A n c bs) (hm : ¬ 1200 < n) (h12 : ¬ n < 12) (hv : bt bs 0 / 64 = 2) (ho : at0 bs ≤ n) (hx : bt bs 0 / 16 % 2 = 1) (he : n < at0 bs + 4) :
    Calls Try.prog 9 #[.slice A n c] w fun e w' => e = .returned (.tuple #[.agg zeroC.toArray, .int .i64 0, .int .i64 2]) ∧ Below w.heap.size w w' := by
  have hz := zero28
  have hs := hr.small
  have hl := hr.len
  obtain ⟨hb, h1, h2⟩ := rbox w
  have H1 := Lib.hid h1
  have H2 := Lib.hid h2
  have HB := Lib.hid hb
  clear h1 h2 hb
  obtain ⟨b, off, rfl, hlt, hcs⟩ := hr.2.2.2.2 (by omega)
  have c0 : (rboxW w).cell? ⟨b, off, none⟩ = some (.int .u8 (bt bs 0 : Nat)) := (HB.out.cell (p := ⟨b, off, none⟩) hlt).trans (hcs 0 (by omega))
  have lb := bt_lt bs 0
  unfold at0 at he
  have hk : ((bt bs 0 : Int) % 16) = (othN bs : Int) := by unfold othN; omega
  have lk : othN bs < 16 := by unfold othN; omega
  unfold at0 at ho
  obtain ⟨K, hK⟩ : ∃ K, K = othN bs := ⟨_, rfl⟩
  rw [← hK] at hk lk ho he
  obtain ⟨b0, hb0⟩ : ∃ b0, b0 = bt bs 0 := ⟨_, rfl⟩
  rw [← hb0] at c0 lb
  simp only [← hb0] at hv hk hx
  have hv2 : ((b0 : Int) / 64 == 2) = true := by simp; omega
  have hx1 : ((b0 : Int) / 16 % 2 == 1) = true := by simp; omega
  clear hr hcs hb0 hv hK hx
  go_enter Try.func9, Try.ntmps9
  go_wp2_with (first
    | (with_reducible refine wpList_ld rfl 28 (.tmp 5) rfl (w.heap.size + 1) 0 rfl zeroC (H2.out.range 0 _ (fun i _ => by rw [Nat.zero_add])) (row11 zlen) ?_)
    | ((with_reducible refine wpList_st rfl 28 (.tmp 2) (.tmp 48) rfl w.heap.size 0 zeroC rfl rfl 28 zeroC H1.out fitz (row11 zlen) zone ?_); intro w3 hB3 ho3; rw [splice_all _ _ (by rfl)] at hB3))
  exact bodyPost_ret (rread_results _ w3 _ zeroC _ _ (by rfl) (by rfl) (by rfl) hB3 rfl) (by rfl) ⟨rfl, HB.out.trans (ho3.below (Nat.le_refl _))⟩

set_option maxRecDepth 100000 in
set_option maxHeartbeats 4000000 in
theorem rread_extw (A : Option Addr) (n c : Nat) (bs : List UInt8) (w : World) (hr : RdS w A n c bs) (hm : ¬ 1200 < n) (h12 : ¬ n < 12) (hv : bt bs 0 / 64 = 2) (ho : at0 bs ≤ n) (hx : bt bs 0 / 16 % 2 = 1) (h4 : at0 bs + 4 ≤ n) (he : n < at0 bs + 4 + 4 * wordsN bs) :
    Calls Try.prog 9 #[.slice A n c] w fun e w' => e = .returned (.tuple #[.agg zeroC.toArray, .int .i64 0, .int .i64 2]) ∧ Below w.heap.size w w' := by
  have hz := zero28
  have hs := hr.small
  have hl := hr.len
  obtain ⟨hb, h1, h2⟩ := rbox w
  have H1 := Lib.hid h1
  have H2 := Lib.hid h2
  have HB := Lib.hid hb
  clear h1 h2 hb
  obtain ⟨b, off, rfl, hlt, hcs⟩ := hr.2.2.2.2 (by omega)
  have c0 : (rboxW w).cell? ⟨b, off, none⟩ = some (.int .u8 (bt bs 0 : Nat)) := (HB.out.cell (p := ⟨b, off, none⟩) hlt).trans (hcs 0 (by omega))
  have lb := bt_lt bs 0
  have lw := words_lt bs
  have hw0 : wordsN bs = numb ((bs.drop (at0 bs + 2)).take 2) := rfl
  have HN2 : Hid (∀ wx, Below w.heap.size w wx → Calls Try.prog 17 #[.slice (some ⟨b, off, none⟩) n c, .int .i64 (12 + 4 * (othN bs : Int) + 2), .int .i64 2] wx fun e w' => e = .returned (.int .u64 (wordsN bs : Nat)) ∧ wx = w') := Lib.hid fun wx hb => by
    have := rnum_yes (some ⟨b, off, none⟩) n c bs (at0 bs + 2) 2 wx (hr.below hb) (by omega) (by omega) (by omega)
    rw [show ((at0 bs + 2 : Nat) : Int) = 12 + 4 * (othN bs : Int) + 2 by unfold at0; omega] at this
    exact this
  have hk : ((bt bs 0 : Int) % 16) = (othN bs : Int) := by unfold othN; omega
  have lk : othN bs < 16 := by unfold othN; omega
  unfold at0 at ho he h4
  obtain ⟨K, hK⟩ : ∃ K, K = othN bs := ⟨_, rfl⟩
  rw [← hK] at hk lk ho he HN2 h4
  obtain ⟨W, hW⟩ : ∃ W, W = wordsN bs := ⟨_, rfl⟩
  simp only [← hW] at HN2 lw he 
  obtain ⟨b0, hb0⟩ : ∃ b0, b0 = bt bs 0 := ⟨_, rfl⟩
  rw [← hb0] at c0 lb
  simp only [← hb0] at hv hk hx
  have hv2 : ((b0 : Int) / 64 == 2) = true := by simp; omega
  have hx1 : ((b0 : Int) / 16 % 2 == 1) = true := by simp; omega
  clear hr hcs hb0 hv hK hx hW hw0
  go_enter Try.func9, Try.ntmps9
  go_wp2_with (first
    | (go_at_call 17; ((with_reducible refine (Hid.out HN2 _ HB.out).mono ?_); rintro e wq ⟨rfl, rfl⟩))
    | (with_reducible refine wpList_ld rfl 28 (.tmp 5) rfl (w.heap.size + 1) 0 rfl zeroC (H2.out.range 0 _ (fun i _ => by rw [Nat.zero_add])) (row11 zlen) ?_)
    | ((with_reducible refine wpList_st rfl 28 (.tmp 2) (.tmp 61) rfl w.heap.size 0 zeroC rfl rfl 28 zeroC H1.out fitz (row11 zlen) zone ?_); intro w3 hB3 ho3; rw [splice_all _ _ (by rfl)] at hB3))
  exact bodyPost_ret (rread_results _ w3 _ zeroC _ _ (by rfl) (by rfl) (by rfl) hB3 rfl) (by rfl) ⟨rfl, HB.out.trans (ho3.below (Nat.le_refl _))⟩

set_option maxRecDepth 100000 in
set_option maxHeartbeats 4000000 in
theorem rread_extl (A : Option Addr) (n c : Nat) (bs : List UInt8) (w : World) (hr : RdS w A n c bs) (hm : ¬ 1200 < n) (h12 : ¬ n < 12) (hv : bt bs 0 / 64 = 2) (ho : at0 bs ≤ n) (hx : bt bs 0 / 16 % 2 = 1) (he : at0 bs + 4 + 4 * wordsN bs ≤ n) (hw : 255 < wordsN bs) :
    Calls Try.prog 9 #[.slice A n c] w fun e w' => e = .returned (.tuple #[.agg zeroC.toArray, .int .i64 0, .int .i64 3]) ∧ Below w.heap.size w w' := by
  have hz := zero28
  have hs := hr.small
  have hl := hr.len
  obtain ⟨hb, h1, h2⟩ := rbox w
  have H1 := Lib.hid h1
  have H2 := Lib.hid h2
  have HB := Lib.hid hb
  clear h1 h2 hb
  obtain ⟨b, off, rfl, hlt, hcs⟩ := hr.2.2.2.2 (by omega)
  have c0 : (rboxW w).cell? ⟨b, off, none⟩ = some (.int .u8 (bt bs 0 : Nat)) := (HB.out.cell (p := ⟨b, off, none⟩) hlt).trans (hcs 0 (by omega))
  have lb := bt_lt bs 0
  have lw := words_lt bs
  have hw0 : wordsN bs = numb ((bs.drop (at0 bs + 2)).take 2) := rfl
  have HN2 : Hid (∀ wx, Below w.heap.size w wx → Calls Try.prog 17 #[.slice (some ⟨b, off, none⟩) n c, .int .i64 (12 + 4 * (othN bs : Int) + 2), .int .i64 2] wx fun e w' => e = .returned (.int .u64 (wordsN bs : Nat)) ∧ wx = w') := Lib.hid fun wx hb => by
    have := rnum_yes (some ⟨b, off, none⟩) n c bs (at0 bs + 2) 2 wx (hr.below hb) (by omega) (by omega) (by omega)
    rw [show ((at0 bs + 2 : Nat) : Int) = 12 + 4 * (othN bs : Int) + 2 by unfold at0; omega] at this
    exact this
  have hk : ((bt bs 0 : Int) % 16) = (othN bs : Int) := by unfold othN; omega
  have lk : othN bs < 16 := by unfold othN; omega
  unfold at0 at ho he
  obtain ⟨K, hK⟩ : ∃ K, K = othN bs := ⟨_, rfl⟩
  rw [← hK] at hk lk ho he HN2
  obtain ⟨W, hW⟩ : ∃ W, W = wordsN bs := ⟨_, rfl⟩
  simp only [← hW] at HN2 lw he hw
  obtain ⟨b0, hb0⟩ : ∃ b0, b0 = bt bs 0 := ⟨_, rfl⟩
  rw [← hb0] at c0 lb
  simp only [← hb0] at hv hk hx
  have hv2 : ((b0 : Int) / 64 == 2) = true := by simp; omega
  have hx1 : ((b0 : Int) / 16 % 2 == 1) = true := by simp; omega
  clear hr hcs hb0 hv hK hx hW hw0
  go_enter Try.func9, Try.ntmps9
  go_wp2_with (first
    | (go_at_call 17; ((with_reducible refine (Hid.out HN2 _ HB.out).mono ?_); rintro e wq ⟨rfl, rfl⟩))
    | (with_reducible refine wpList_ld rfl 28 (.tmp 5) rfl (w.heap.size + 1) 0 rfl zeroC (H2.out.range 0 _ (fun i _ => by rw [Nat.zero_add])) (row11 zlen) ?_)
    | ((with_reducible refine wpList_st rfl 28 (.tmp 2) (.tmp 64) rfl w.heap.size 0 zeroC rfl rfl 28 zeroC H1.out fitz (row11 zlen) zone ?_); intro w3 hB3 ho3; rw [splice_all _ _ (by rfl)] at hB3))
  exact bodyPost_ret (rread_results _ w3 _ zeroC _ _ (by rfl) (by rfl) (by rfl) hB3 rfl) (by rfl) ⟨rfl, HB.out.trans (ho3.below (Nat.le_refl _))⟩

set_option maxRecDepth 100000 in
set_option maxHeartbeats 4000000 in
theorem rread_padno0 (A : Option Addr) (n c : Nat) (bs : List UInt8) (w : World) (hr : RdS w A n c bs) (hm : ¬ 1200 < n) (h12 : ¬ n < 12) (hv : bt bs 0 / 64 = 2) (ho : at0 bs ≤ n) (hx : bt bs 0 / 16 % 2 = 0) (hp : bt bs 0 / 32 % 2 = 1) (hq : at0 bs = n ∨ bt bs (n - 1) = 0 ∨ n - at0 bs < bt bs (n - 1)) :
    Calls Try.prog 9 #[.slice A n c] w fun e w' => e = .returned (.tuple #[.agg zeroC.toArray, .int .i64 0, .int .i64 3]) ∧ Below w.heap.size w w' := by
  have hz := zero28
  have hs := hr.small
  have hl := hr.len
  obtain ⟨hb, h1, h2⟩ := rbox w
  have H1 := Lib.hid h1
  have H2 := Lib.hid h2
  have HB := Lib.hid hb
  clear h1 h2 hb
  obtain ⟨b, off, rfl, hlt, hcs⟩ := hr.2.2.2.2 (by omega)
  have c0 : (rboxW w).cell? ⟨b, off, none⟩ = some (.int .u8 (bt bs 0 : Nat)) := (HB.out.cell (p := ⟨b, off, none⟩) hlt).trans (hcs 0 (by omega))
  have lb := bt_lt bs 0
  have cl : (rboxW w).cell? ⟨b, off + (n - 1), none⟩ = some (.int .u8 (bt bs (n - 1) : Nat)) := (HB.out.cell (p := ⟨b, off + (n - 1), none⟩) hlt).trans (hcs (n - 1) (by omega))
  have ll := bt_lt bs (n - 1)
  have e3 : ((n : Int) - 1) = ((n - 1 : Nat) : Int) := by omega
  unfold at0 at hq
  have hk : ((bt bs 0 : Int) % 16) = (othN bs : Int) := by unfold othN; omega
  have lk : othN bs < 16 := by unfold othN; omega
  unfold at0 at ho
  obtain ⟨K, hK⟩ : ∃ K, K = othN bs := ⟨_, rfl⟩
  rw [← hK] at hk lk ho hq
  obtain ⟨b0, hb0⟩ : ∃ b0, b0 = bt bs 0 := ⟨_, rfl⟩
  rw [← hb0] at c0 lb
  simp only [← hb0] at hv hk hx hp
  have hv2 : ((b0 : Int) / 64 == 2) = true := by simp; omega
  have hx1 : ((b0 : Int) / 16 % 2 == 1) = false := by simp; omega
  have hp1 : ((b0 : Int) / 32 % 2 == 1) = true := by simp; omega
  obtain ⟨L, hL⟩ : ∃ L, L = bt bs (n - 1) := ⟨_, rfl⟩
  simp only [← hL] at cl ll hq
  have hq1 : ((12 + 4 * (K : Int)) == (n : Int)) = true ∨ (((12 + 4 * (K : Int)) == (n : Int)) = false ∧ ((L : Int) == 0) = true) ∨ (((12 + 4 * (K : Int)) == (n : Int)) = false ∧ ((L : Int) == 0) = false ∧ (n : Int) - (12 + 4 * (K : Int)) < (L : Int)) := by
    by_cases q1 : 12 + 4 * K = n
    · exact .inl (by simp; omega)
    · by_cases q2 : L = 0
      · exact .inr (.inl ⟨by simp; omega, by simp; omega⟩)
      · exact .inr (.inr ⟨by simp; omega, by simp; omega, by omega⟩)
  clear hr hcs hb0 hv hK hx hp hL hq
  rcases hq1 with q1 | ⟨q1, q2⟩ | ⟨q1, q2, q3⟩
  · go_enter Try.func9, Try.ntmps9
    go_wp2_with (first
      | ((with_reducible refine wpList_st rfl 28 (.tmp 2) (.tmp 115) rfl w.heap.size 0 zeroC rfl rfl 28 zeroC H1.out fitz (row11 zlen) zone ?_); intro w3 hB3 ho3; rw [splice_all _ _ (by rfl)] at hB3))
    exact bodyPost_ret (rread_results _ w3 _ zeroC _ _ (by rfl) (by rfl) (by rfl) hB3 rfl) (by rfl) ⟨rfl, HB.out.trans (ho3.below (Nat.le_refl _))⟩
  · go_enter Try.func9, Try.ntmps9
    go_wp2_with (first
      | ((with_reducible refine wpList_st rfl 28 (.tmp 2) (.tmp 115) rfl w.heap.size 0 zeroC rfl rfl 28 zeroC H1.out fitz (row11 zlen) zone ?_); intro w3 hB3 ho3; rw [splice_all _ _ (by rfl)] at hB3))
    exact bodyPost_ret (rread_results _ w3 _ zeroC _ _ (by rfl) (by rfl) (by rfl) hB3 rfl) (by rfl) ⟨rfl, HB.out.trans (ho3.below (Nat.le_refl _))⟩
  · go_enter Try.func9, Try.ntmps9
    go_wp2_with (first
      | ((with_reducible refine wpList_st rfl 28 (.tmp 2) (.tmp 115) rfl w.heap.size 0 zeroC rfl rfl 28 zeroC H1.out fitz (row11 zlen) zone ?_); intro w3 hB3 ho3; rw [splice_all _ _ (by rfl)] at hB3))
    exact bodyPost_ret (rread_results _ w3 _ zeroC _ _ (by rfl) (by rfl) (by rfl) hB3 rfl) (by rfl) ⟨rfl, HB.out.trans (ho3.below (Nat.le_refl _))⟩

end Go.Proofs.Yticbajagccemoaa
