/- Contracts of package bucket: what is given, taken, waited for. No statement is proved here. -/
import Derived.Test.YtogffieknfbneaaBkt1
import Derived.StillTailTactics
namespace Go.Proofs.Ytogffieknfbneaa
open Go.RowKit
set_option linter.unusedVariables false

section
variable {w w' : World} {g : Nat} {r B h : Int}
theorem BktAt.c0 (k : BktAt w g r B h) : w.cell? ⟨g, 0, none⟩ = some (.int .u64 r) := (k.blk.cell 0).trans rfl
theorem BktAt.c1 (k : BktAt w g r B h) : w.cell? ⟨g, 1, none⟩ = some (.int .u64 B) := (k.blk.cell 1).trans rfl
theorem BktAt.c2 (k : BktAt w g r B h) : w.cell? ⟨g, 2, none⟩ = some (.int .u64 h) := (k.blk.cell 2).trans rfl
theorem BktAt.put (k : BktAt w g r B h) (x : Int) (hx : U64 x) : BktAt (w.setCell ⟨g, 2, none⟩ (.int .u64 x)) g r B x := ⟨k.blk.set_ 2 _, k.ur, k.uB, hx⟩
end

theorem new_any (r B : Int) (w : World) (hr : U64 r) (hB : U64 B) :
    Calls Try.prog 7 #[.int .u64 r, .int .u64 B] w fun e w' => e = .returned (.pointer (some ⟨w.heap.size, 0, none⟩)) ∧ BktAt w' w.heap.size r B B ∧ Below w.heap.size w w' := by
  have h0 : BktAt (w.alloc (.cells #[.int .u64 r, .int .u64 B, .int .u64 B] 38)) w.heap.size r B B := ⟨BlkV.new w _ _, hr, hB, hB⟩
  have b0 : Below w.heap.size w (w.alloc (.cells #[.int .u64 r, .int .u64 B, .int .u64 B] 38)) := (Below.refl _ _).alloc (Nat.le_refl _) _
  clear hr hB
  go_enter Try.func7, Try.ntmps7
  go_wp2
  go_ret
  exact ⟨rfl, h0, b0⟩

theorem have_none (w : World) :
    Calls Try.prog 11 #[.pointer none] w fun e w' => e = .returned (.int .u64 0) ∧ w = w' := by
  go_enter Try.func11, Try.ntmps11
  go_wp2
  go_ret
  exact ⟨rfl, rfl⟩
theorem have_any (g : Nat) (r B h : Int) (w : World) (hb : BktAt w g r B h) :
    Calls Try.prog 11 #[.pointer (some ⟨g, 0, none⟩)] w fun e w' => e = .returned (.int .u64 h) ∧ w = w' := by
  have c2 := hb.c2
  clear hb
  go_enter Try.func11, Try.ntmps11
  go_wp2
  go_ret
  exact ⟨rfl, rfl⟩

theorem take_none (n : Int) (w : World) :
    Calls Try.prog 9 #[.pointer none, .int .u64 n] w fun e w' => e = .returned (.bool false) ∧ w = w' := by
  go_enter Try.func9, Try.ntmps9
  go_wp2
  go_ret
  exact ⟨rfl, rfl⟩
theorem take_not (g : Nat) (r B h n : Int) (w : World) (hb : BktAt w g r B h) (hn : h < n) :
    Calls Try.prog 9 #[.pointer (some ⟨g, 0, none⟩), .int .u64 n] w fun e w' => e = .returned (.bool false) ∧ w = w' := by
  have c2 := hb.c2
  clear hb
  go_enter Try.func9, Try.ntmps9
  go_wp2
  go_ret
  exact ⟨rfl, rfl⟩
theorem take_can (g : Nat) (r B h n : Int) (w : World) (hb : BktAt w g r B h) (h0 : 0 ≤ n) (hn : n ≤ h) :
    Calls Try.prog 9 #[.pointer (some ⟨g, 0, none⟩), .int .u64 n] w fun e w' => e = .returned (.bool true) ∧ BktAt w' g r B (h - n) ∧ Only g w w' := by
  have c2 := hb.c2
  have f2 := hb.blk.frozen 2
  obtain ⟨h1, h2⟩ := hb.uh
  have hp := Lib.hid (hb.put (h - n) ⟨by omega, by omega⟩)
  have ho := Only.set w g 2 (.int .u64 (h - n))
  clear hb
  go_enter Try.func9, Try.ntmps9
  go_wp2
  go_ret
  exact ⟨rfl, hp.out, ho⟩

theorem give_none (n : Int) (w : World) :
    Calls Try.prog 12 #[.pointer none, .int .u64 n] w fun e w' => e = .returned (.tuple #[]) ∧ w = w' := by
  go_enter Try.func12, Try.ntmps12
  go_wp2
  go_end0
  exact ⟨rfl, rfl⟩
theorem tick_none (w : World) :
    Calls Try.prog 8 #[.pointer none] w fun e w' => e = .returned (.tuple #[]) ∧ w = w' := by
  go_enter Try.func8, Try.ntmps8
  go_wp2
  go_end0
  exact ⟨rfl, rfl⟩
theorem wait_none (n : Int) (w : World) :
    Calls Try.prog 10 #[.pointer none, .int .u64 n] w fun e w' => e = .returned (.int .i64 (-1)) ∧ w = w' := by
  go_enter Try.func10, Try.ntmps10
  go_wp2
  go_ret
  exact ⟨rfl, rfl⟩
theorem copy_none (w : World) :
    Calls Try.prog 13 #[.pointer none] w fun e w' => e = .returned (.pointer none) ∧ w = w' := by
  go_enter Try.func13, Try.ntmps13
  go_wp2
  go_ret
  exact ⟨rfl, rfl⟩

set_option maxRecDepth 100000 in
theorem give_any (g : Nat) (r B h n : Int) (w : World) (hb : BktAt w g r B h) (hn : U64 n) :
    Calls Try.prog 12 #[.pointer (some ⟨g, 0, none⟩), .int .u64 n] w fun e w' => e = .returned (.tuple #[]) ∧ BktAt w' g r B (givB B h n) ∧ w.grownBy w' (some g) := by
  have c2 := hb.c2
  have c1 := hb.c1
  have f2 := hb.blk.frozen 2
  have hlt := hb.lt
  have HS := Lib.hid (fun wx => sat_any h n wx hb.uh.1 hb.uh.2 hn.1 hn.2)
  have us : U64 (satN h n) := hb.uh.sat hn
  obtain ⟨S, hS⟩ : ∃ S, S = satN h n := ⟨_, rfl⟩
  have HB := Lib.hid hb
  have ug : U64 (givB B h n) := U64.giv hb.uB hb.uh hn
  obtain ⟨G, hG⟩ : ∃ G, G = givB B h n := ⟨_, rfl⟩
  have hG2 : lstB S B = G := by rw [hG, givB, hS]
  rw [← hS] at HS us
  rw [← hG] at ug ⊢
  have HL : Hid (∀ (b : Nat) wx, wx.cell? ⟨b, 0, none⟩ = some (.int .u64 B) → Calls Try.prog 14 #[.int .u64 S, .slice (some ⟨b, 0, none⟩) 1 1] wx fun e w' => e = .returned (.int .u64 G) ∧ wx = w') := Lib.hid fun b wx hc => by
    rw [← hG2]; exact least_any S B b wx hc us hb.uB
  clear hS hG hG2 us hb
  go_enter Try.func12, Try.ntmps12
  go_wp2
  have hfin : BktAt ((w.setCell ⟨g, 2, none⟩ (.int .u64 G)).alloc (.cells #[.int .u64 B] 27)).drew g r B G ∧ w.grownBy ((w.setCell ⟨g, 2, none⟩ (.int .u64 G)).alloc (.cells #[.int .u64 B] 27)).drew (some g) := by
    have k1 := HB.out.put G ug
    have k2 := (Only.set w g 2 (.int .u64 G)).grown
    have b2 : Below (w.setCell ⟨g, 2, none⟩ (.int .u64 G)).heap.size (w.setCell ⟨g, 2, none⟩ (.int .u64 G)) ((w.setCell ⟨g, 2, none⟩ (.int .u64 G)).alloc (.cells #[.int .u64 B] 27)).drew := ((Below.refl _ _).alloc (Nat.le_refl _) _).drew
    exact ⟨k1.below b2, k2.trans (grown_of_below b2 (some g))⟩
  have HF := Lib.hid hfin
  clear hfin
  have hal : ∀ (m : Nat) (wx : World), (wx.alloc (.cells #[.int .u64 B] 27)).cell? ⟨wx.heap.size, 0, none⟩ = some (.int .u64 B) := fun m wx => ((BlkV.new wx 27 [.int .u64 B]).cell 0).trans rfl
  go_region_law (first
    | (go_simp; go_at_call 15; ((with_reducible refine (Hid.out HS _).mono ?_); rintro e w' ⟨rfl, rfl⟩))
    | (go_simp; go_at_call 14; ((with_reducible refine (Hid.out HL _ _ ?_).mono ?_); exact hal 0 _; rintro e w' ⟨rfl, rfl⟩)))
  all_goals (try go_wp2)
  all_goals (go_end0; exact ⟨rfl, HF.out.1, HF.out.2⟩)

theorem tick_any (g : Nat) (r B h : Int) (w : World) (hb : BktAt w g r B h) :
    Calls Try.prog 8 #[.pointer (some ⟨g, 0, none⟩)] w fun e w' => e = .returned (.tuple #[]) ∧ BktAt w' g r B (givB B h r) ∧ w.grownBy w' (some g) := by
  have c0 := hb.c0
  have HG := Lib.hid (give_any g r B h r w hb hb.ur)
  clear hb
  go_enter Try.func8, Try.ntmps8
  go_wp2_with (go_at_call 12; ((with_reducible refine (Hid.out HG).mono ?_); rintro e w1 ⟨rfl, h1, h2⟩))
  go_end0
  exact ⟨rfl, h1, h2⟩
end Go.Proofs.Ytogffieknfbneaa
