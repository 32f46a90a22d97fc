/- Contracts of package stream: bytes ciphered, a way's first counter. No statement is proved here. -/
import Derived.Test.YtbimpejeoidafaaStr3
import Derived.Test.YtbimpejeoidafaaOct
namespace Go.Proofs.Ytbimpejeoidafaa
open Go.RowKit
set_option linter.unusedVariables false

theorem boxes2 (w : World) (key c : List UInt8) : Below w.heap.size w ((w.alloc (Obj.cells (cells key).toArray 25)).alloc (Obj.cells (cells c).toArray 25)) ∧
    Blk ((w.alloc (Obj.cells (cells key).toArray 25)).alloc (Obj.cells (cells c).toArray 25)) w.heap.size 25 key ∧
    Blk ((w.alloc (Obj.cells (cells key).toArray 25)).alloc (Obj.cells (cells c).toArray 25)) (w.heap.size + 1) 25 c :=
  ⟨((Below.refl _ _).alloc (Nat.le_refl _) _).alloc (by simp) _, (Blk.new _ _ _).alloc _, Blk.new_at _ _ _ _ _ (by simp) rfl⟩

set_option maxRecDepth 100000 in
set_option maxHeartbeats 1000000 in
theorem cipher_big (key c : List UInt8) (A : Option Addr) (n cap : Nat) (w : World) (hn : 4096 < n) (hs : n ≤ 9223372036854775807) :
    Calls Try.prog 11 #[.agg (cells key).toArray, .agg (cells c).toArray, .slice A n cap] w fun e w' => e = .returned (.slice none 0 0) ∧ Below w.heap.size w w' := by
  obtain ⟨hb0, _, _⟩ := boxes2 w key c
  have hd : decide ((4096 : Int) < (n : Int)) = true := by simp; omega
  go_enter Try.func11, Try.ntmps11
  go_wp2
  go_ret
  exact ⟨rfl, hb0⟩

set_option maxRecDepth 100000 in
set_option maxHeartbeats 1000000 in
theorem cipher_any (key c : List UInt8) (A : Option Addr) (n cap : Nat) (bs : List UInt8) (w : World) (hk : key.length = 16) (hc : c.length = 16) (hr : RdS w A n cap bs) (hn : n ≤ 4096) :
    Calls Try.prog 11 #[.agg (cells key).toArray, .agg (cells c).toArray, .slice A n cap] w fun e w' => ∃ v, e = .returned v ∧ w'.ownsRow w.heap.size 5 1 v n (cells (cph key c bs)) ∧ Below w.heap.size w w' := by
  obtain ⟨hb0, h0, h1⟩ := boxes2 w key c
  have hl := hr.len
  have HKL : Hid ((cells key).length = 16) := Lib.hid (by rw [length_cells, hk])
  have HCL : Hid ((cells c).length = 16) := Lib.hid (by rw [length_cells, hc])
  have hd : decide ((4096 : Int) < (n : Int)) = false := by simp; omega
  have hr1 := hr.below hb0
  rcases Nat.eq_zero_or_pos n with hz | hz
  · subst hz
    have hbs : bs = [] := List.eq_nil_of_length_eq_zero hl
    subst hbs
    have hby := fun wx => bytes_none key c 0 wx (by omega)
    have HB := Lib.hid hby
    clear hk hc hby
    go_enter Try.func11, Try.ntmps11
    go_wp2_with (first
      | (with_reducible refine wpList_ld rfl 25 (.tmp 3) rfl w.heap.size 0 rfl (cells key) (h0.v.range 0 _ (by simp)) (row16 HKL.out) ?_)
      | (with_reducible refine wpList_ld rfl 25 (.tmp 4) rfl (w.heap.size + 1) 0 rfl (cells c) (h1.v.range 0 _ (by simp)) (row16 HCL.out) ?_)
      | (go_at_call 13; ((with_reducible refine (HB.out _).mono ?_); rintro e w2 ⟨rfl, hb2⟩))
      | (go_at_call 15; ((with_reducible refine (take_none _ _ _ _).mono ?_); rintro e w3 ⟨rfl, rfl⟩)))
    go_ret
    exact ⟨_, rfl, World.ownsRow_nil _ _ _ _, hb0.trans (hb2.mono hb0.size)⟩
  · have hfl := cph_fill key c bs
    rw [hl] at hfl
    have hby := fun wx => bytes_any key c n wx hk hc (by omega) hn
    have HB := Lib.hid hby
    have HF := Lib.hid hfl
    have HS := Lib.hid (strm_len key c n)
    obtain ⟨S, hS⟩ : ∃ S, S = strm key c n := ⟨_, rfl⟩
    rw [← hS] at HB HF HS
    have hsz := hb0.size
    have HL := Lib.hid hl
    clear hk hc hby hfl hS hl
    go_enter Try.func11, Try.ntmps11
    go_wp2_with (first
      | (with_reducible refine wpList_ld rfl 25 (.tmp 3) rfl w.heap.size 0 rfl (cells key) (h0.v.range 0 _ (by simp)) (row16 HKL.out) ?_)
      | (with_reducible refine wpList_ld rfl 25 (.tmp 4) rfl (w.heap.size + 1) 0 rfl (cells c) (h1.v.range 0 _ (by simp)) (row16 HCL.out) ?_)
      | (go_at_call 13; ((with_reducible refine (HB.out _).mono ?_); rintro e w2 ⟨g, rfl, hg, hB2, hb2⟩; have hr2 := hr1.below hb2; have hof := hr1.off_lt hg))
      | (go_at_call 15; ((with_reducible refine (take_any g 0 n n _ S A n cap bs w2 hB2 hr2 hof (Nat.le_refl _) (by rw [HS.out]; omega)).mono ?_); rintro e w3 ⟨rfl, hB3, ho3⟩)))
    go_ret
    rw [HF.out] at hB3
    exact ⟨_, rfl, hB3.owns (by rw [cph_len, HL.out]) (by simp only [maxLen]; omega) (by omega), (hb0.trans (hb2.mono hb0.size)).trans (ho3.below (by omega))⟩

/-- Fourteen zeros, and their type. -/
theorem row14_ : RowTy Try.prog 22 14 := ⟨_, Try.underlying22, rfl, by kernel_rfl⟩
theorem row14 {n : Nat} (h : n = 14) : RowTy Try.prog 22 n := h ▸ row14_
theorem first_boxes (w : World) (salt : List UInt8) : Below w.heap.size w (((w.alloc (Obj.cells (cells salt).toArray 22)).alloc (Obj.cells (cells Z16).toArray 25)).alloc (Obj.cells (cells Z16).toArray 25)) ∧
    Blk (((w.alloc (Obj.cells (cells salt).toArray 22)).alloc (Obj.cells (cells Z16).toArray 25)).alloc (Obj.cells (cells Z16).toArray 25)) w.heap.size 22 salt ∧
    Blk (((w.alloc (Obj.cells (cells salt).toArray 22)).alloc (Obj.cells (cells Z16).toArray 25)).alloc (Obj.cells (cells Z16).toArray 25)) (w.heap.size + 1) 25 Z16 ∧
    Blk (((w.alloc (Obj.cells (cells salt).toArray 22)).alloc (Obj.cells (cells Z16).toArray 25)).alloc (Obj.cells (cells Z16).toArray 25)) (w.heap.size + 1 + 1) 25 Z16 :=
  ⟨(((Below.refl _ _).alloc (Nat.le_refl _) _).alloc (by simp) _).alloc (by simp; omega) _, ((Blk.new _ _ _).alloc _).alloc _, (Blk.new_at _ _ _ _ _ (by simp) rfl).alloc _, Blk.new_at _ _ _ _ _ (by simp) rfl⟩
theorem salt_splice (salt : List UInt8) (h : salt.length = 14) : splice (cells Z16) 0 (cells (salt.take 14)) = cells (saltZ salt) := by
  rw [List.take_of_length_le (by omega), splice, saltZ, cells_append]
  simp [cells, h, Z16]

set_option maxRecDepth 100000 in
set_option maxHeartbeats 1000000 in
theorem first_any (salt : List UInt8) (s x : Nat) (w : World) (hs : salt.length = 14) (hsl : s < 4294967296) (hx : x < 18446744073709551616) :
    Calls Try.prog 7 #[.agg (cells salt).toArray, .int .u32 (s : Int), .int .u64 (x : Int)] w fun e w' => e = .returned (.agg (cells (firstC salt s x)).toArray) ∧ Below w.heap.size w w' := by
  have hz := zero16
  obtain ⟨hb0, h0, h1, h2⟩ := first_boxes w salt
  have hsp := salt_splice salt hs
  have hfc : (cells (firstC salt s x)).length = 16 := by rw [length_cells, firstC_len _ _ _ hs]
  have hsz : (saltZ salt).length = 16 := saltZ_len _ hs
  obtain ⟨F, hF⟩ : ∃ F, F = firstC salt s x := ⟨_, rfl⟩
  have hF2 : fillO (xrB (saltZ salt) (beb 4 s ++ beb 6 x) 4) 4 (saltZ salt) 10 = F := by rw [hF]; rfl
  rw [← hF] at hfc ⊢
  obtain ⟨SZ, hSZ⟩ : ∃ SZ, SZ = saltZ salt := ⟨_, rfl⟩
  rw [← hSZ] at hsp hsz hF2
  have hZL : (cells Z16).length = 16 := by rw [length_cells, Z16_len]
  have HZL := Lib.hid hZL
  have HSP := Lib.hid hsp
  have HFC := Lib.hid hfc
  have HSZ := Lib.hid hsz
  have HF2 := Lib.hid hF2
  have hp1 : ∀ wx : World, Calls Try.prog 14 #[.slice none 0 0, .int .i64 4, .int .u64 (s : Int)] wx fun e w' => e = .returned (.slice (some ⟨wx.heap.size, 0, none⟩) 4 4) ∧ Blk w' wx.heap.size 5 (beb 4 s) ∧ Below wx.heap.size wx w' := fun wx => put_some none 0 0 [] 4 s wx (RdS.nil _) (by omega) (by omega) (by omega) (by omega)
  have hp2 : ∀ (wx : World) (A : Option Addr) (c : Nat), RdS wx A 4 c (beb 4 s) → Calls Try.prog 14 #[.slice A 4 c, .int .i64 6, .int .u64 (x : Int)] wx fun e w' => e = .returned (.slice (some ⟨wx.heap.size, 0, none⟩) 10 10) ∧ Blk w' wx.heap.size 5 (beb 4 s ++ beb 6 x) ∧ Below wx.heap.size wx w' := fun wx A c hr => put_some A 4 c (beb 4 s) 6 x wx hr (by omega) (by omega) hx (by omega)
  have hrd1 : ∀ (wx : World) (g : Nat), Blk wx g 5 (beb 4 s) → RdS wx (some ⟨g, 0, none⟩) 4 4 (beb 4 s) := fun wx g h => h.rd (length_beb _ _) (Nat.le_refl _) (by simp [maxLen])
  have hrd2 : ∀ (wx : World) (g : Nat), Blk wx g 5 (beb 4 s ++ beb 6 x) → RdS wx (some ⟨g, 0, none⟩) 10 10 (beb 4 s ++ beb 6 x) := fun wx g h => h.rd (by rw [List.length_append, length_beb, length_beb]) (Nat.le_refl _) (by simp [maxLen])
  have HP1 := Lib.hid hp1
  have HP2 := Lib.hid hp2
  have hwr : IntKind.u64.wrap (s : Int) = (s : Int) := by rw [IntKind.wrap_u64]; omega
  clear hZL hsp hfc hsz hF hF2 hSZ hp1 hp2
  go_enter Try.func7, Try.ntmps7
  go_wp2
  go_still_tail 2, (by kernel_rfl)
  change wpList _ _ _ _ _ (World.drew _)
  have k0 := (h0.drew).rd hs (Nat.le_refl 14) (by simp [maxLen])
  have k1 := h1.drew
  have k2 := h2.drew
  have kb := hb0.drew
  generalize (((w.alloc (Obj.cells (cells salt).toArray 22)).alloc (Obj.cells (cells Z16).toArray 25)).alloc (Obj.cells (cells Z16).toArray 25)).drew = w2 at *
  clear h0 h1 h2 hb0 hs
  go_wp2_with (first
    | ((with_reducible refine wpList_cp rfl (.tmp 9) (.tmp 10) rfl Try.underlying31 u8_inf (w.heap.size + 1 + 1) 0 16 16 25 (cells Z16) rfl k2.v (some ⟨w.heap.size, 0, none⟩) 14 14 salt rfl k0 (by rw [HZL.out]; omega) 14 (by decide) (by omega) ?_); intro w3 hB3 ho3; rw [HSP.out] at hB3; have j1 := Blk.only k1 ho3 (by omega); have jb := kb.trans (ho3.below (by omega)))
    | (go_at_call 14; ((with_reducible refine (HP1.out w3).mono ?_); rintro e w4 ⟨rfl, hB4, hb4⟩; have hR4 := hrd1 w4 _ hB4))
    | (go_at_call 14; ((with_reducible refine (HP2.out w4 _ _ hR4).mono ?_); rintro e w5 ⟨rfl, hB5, hb5⟩; have hR5 := hrd2 w5 _ hB5; have hS5 : Blk w5 (w.heap.size + 1 + 1) 25 SZ := Blk.below (Blk.below hB3 hb4 hB3.lt) hb5 (Nat.lt_of_lt_of_le hB3.lt hb4.size); have h15 := (j1.below hb4 j1.lt).below hb5 (Nat.lt_of_lt_of_le j1.lt hb4.size); have hb5w := (jb.trans (hb4.mono jb.size)).trans (hb5.mono (Nat.le_trans jb.size hb4.size)); have hgl := Nat.lt_of_lt_of_le hB3.lt hb4.size; have hof5 : OffN (some ⟨w4.heap.size, 0, none⟩) 10 (w.heap.size + 1 + 1) := (fun _ ad hA => by injection hA with hA; subst hA; show w4.heap.size ≠ _; omega)))
    | (go_at_call 15; ((with_reducible refine (take_any (w.heap.size + 1 + 1) 4 12 12 _ SZ (some ⟨w4.heap.size, 0, none⟩) 10 10 (beb 4 s ++ beb 6 x) w5 hS5 hR5 hof5 (by omega) (by rw [HSZ.out]; omega)).mono ?_); rintro e w6 ⟨rfl, hB6, ho6⟩; have hF6 : Blk w6 (w.heap.size + 1 + 1) 25 F := HF2.out ▸ hB6; have h16 := Blk.only h15 ho6 (by omega); have hb6 := hb5w.trans (ho6.below (by omega))))
    | (with_reducible refine wpList_ld rfl 25 (.tmp 7) rfl (w.heap.size + 1 + 1) 0 rfl (cells F) (hF6.v.range 0 _ (by simp)) (row16 HFC.out) ?_)
    | ((with_reducible refine wpList_st rfl 25 (.tmp 6) (.tmp 20) rfl (w.heap.size + 1) 0 (cells F) rfl rfl 25 _ h16.v (by rw [HFC.out, HZL.out]; omega) (row16 HFC.out) (cells_one _) ?_); intro w7 hB7 ho7; rw [splice_all _ _ (by rw [HFC.out, HZL.out])] at hB7))
  exact ret_row (by rfl) (by rfl) hB7 (row16 HFC.out) (by rfl) ⟨rfl, hb6.trans (ho7.below (by omega))⟩
end Go.Proofs.Ytbimpejeoidafaa
