/- Several texts in one: plain words and walks. No statement is proved here. -/
import Derived.Test.YtheefckohnaceaaGreatDoorZM23
import Derived.BigQuiet
namespace Go.Proofs.YtheefckohnaceaaGreatDoor
open Go.RowKit
set_option linter.unusedVariables false

def GreatTold (l : List Ctl) (w : World) (e : Ending) (w' : World) : Prop := (∃ b : Bool, e = .returned (.bool b) ∧ (b = false → l.length ≤ 60 ∧ ∀ c ∈ l, c.small)) ∧ Below w.heap.size w w'
theorem GreatTold.yes {l : List Ctl} {w w' : World} (h : Below w.heap.size w w') : GreatTold l w (.returned (.bool true)) w' := ⟨⟨true, rfl, fun h => by cases h⟩, h⟩

theorem nams_snoc {α : Type} {P : α → Prop} {L : List α} {m : Nat} (h : m < L.length) (h1 : ∀ c ∈ L.take m, P c) (h2 : P L[m]) : ∀ c ∈ L.take (m + 1), P c := by
 rw [List.take_add_one, List.getElem?_eq_getElem h]
 intro c hc
 rcases List.mem_append.1 hc with hc | hc
 · exact h1 c hc
 · simp at hc; subst hc; exact h2

set_option maxRecDepth 100000 in
set_option maxHeartbeats 4000000 in
theorem great_any (A : Option Addr) (n c : Nat) (l : List Ctl) (w : World) (h : CtRds w A l) (hn : l.length = n) (hs : n ≤ 9223372036854775807) :
 Calls Tryz.prog 6 #[.slice A n c] w (GreatTold l w) := by
 have HR := Lib.hid h
 have HN := Lib.hid hn
 clear h hn
 go_enter Tryz.func6, Tryz.ntmps6
 go_wp2
 go_loopw [3] (fun i wr => ∃ k : Nat, k ≤ n ∧ i = .int .i64 k ∧ Hid (Below w.heap.size w wr) ∧ Hid (∀ c ∈ l.take k, c.small)) (fun i _ => n - (intOf i).toNat)
 case atStart => exact ⟨0, by omega, rfl, Lib.hid (Below.refl _ _), Lib.hid (by simp)⟩
 case round =>
  obtain ⟨k, hk, rfl, HB, HS⟩ := hrel
  by_cases hkn : k < n
  · have hkl : k < l.length := by rw [HN.out]; exact hkn
    obtain ⟨b, off, cs, rfl, hC, hat⟩ := HR.out.at_ hkl
    have HAT := Lib.hid hat
    have HX := Lib.hid (fun hm => takeP_snoc (P := Ctl.small) hkl HS.out hm)
    obtain ⟨x, hx⟩ : ∃ x, x = l[k] := ⟨_, rfl⟩
    rw [← hx] at hC HX
    obtain ⟨A7, a7, A8, a8, A9, a9, A10, a10, A11, a11, h0, r7, r8, r9, r10, r11⟩ := hC
    subst h0
    have G : Hid (∀ wx, Below w.heap.size w wx → wx.cell? ⟨b, off + k * 13 + 7, none⟩ = some (.slice A7 x.reps.length a7) ∧ wx.cell? ⟨b, off + k * 13 + 8, none⟩ = some (.slice A8 x.nams.length a8) ∧ wx.cell? ⟨b, off + k * 13 + 9, none⟩ = some (.slice A9 x.srcs.length a9) ∧ wx.cell? ⟨b, off + k * 13 + 10, none⟩ = some (.slice A10 x.loss.length a10) ∧ wx.cell? ⟨b, off + k * 13 + 11, none⟩ = some (.slice A11 x.firs.length a11)) :=
     Lib.hid (fun wx hb => ⟨HAT.out wx hb 7 _ rfl, HAT.out wx hb 8 _ rfl, HAT.out wx hb 9 _ rfl, HAT.out wx hb 10 _ rfl, HAT.out wx hb 11 _ rfl⟩)
    obtain ⟨g7, g8, g9, g10, g11⟩ := G.out wr HB.out
    obtain ⟨n7, hn7⟩ : ∃ n7, n7 = x.reps.length := ⟨_, rfl⟩
    obtain ⟨n8, hn8⟩ : ∃ n8, n8 = x.nams.length := ⟨_, rfl⟩
    obtain ⟨n9, hn9⟩ : ∃ n9, n9 = x.srcs.length := ⟨_, rfl⟩
    obtain ⟨n10, hn10⟩ : ∃ n10, n10 = x.loss.length := ⟨_, rfl⟩
    obtain ⟨n11, hn11⟩ : ∃ n11, n11 = x.firs.length := ⟨_, rfl⟩
    have R8 := Lib.hid r8
    rw [← hn7] at g7 G
    rw [← hn8] at g8 G
    rw [← hn9] at g9 G
    rw [← hn10] at g10 G
    rw [← hn11] at g11 G
    have HL := Lib.hid (show n7 = x.reps.length ∧ n8 = x.nams.length ∧ n9 = x.srcs.length ∧ n10 = x.loss.length ∧ n11 = x.firs.length from ⟨hn7, hn8, hn9, hn10, hn11⟩)
    clear hx hat r7 r8 r9 r10 r11 hn7 hn8 hn9 hn10 hn11 HAT HS
    by_cases q7 : (100 : Int) < (n7 : Int)
    · go_wp2
      go_ret
      exact GreatTold.yes HB.out
    by_cases q8 : (100 : Int) < (n8 : Int)
    · go_wp2
      go_ret
      exact GreatTold.yes HB.out
    by_cases q9 : (100 : Int) < (n9 : Int)
    · go_wp2
      go_ret
      exact GreatTold.yes HB.out
    by_cases q10 : (100 : Int) < (n10 : Int)
    · go_wp2
      go_ret
      exact GreatTold.yes HB.out
    by_cases q11 : (100 : Int) < (n11 : Int)
    · go_wp2
      go_ret
      exact GreatTold.yes HB.out
    go_wp2
    go_loopw [4] (fun j wx => ∃ m : Nat, m ≤ n8 ∧ j = .int .i64 m ∧ Hid (Below w.heap.size w wx) ∧ Hid (∀ y ∈ x.nams.take m, y.2.length ≤ 100)) (fun j _ => n8 - (intOf j).toNat)
    case atStart => exact ⟨0, by omega, rfl, HB, Lib.hid (by simp)⟩
    case round =>
     obtain ⟨m, hm, rfl, HB2, HS2⟩ := hrel
     obtain ⟨z7, z8, z9, z10, z11⟩ := G.out wr HB2.out
     clear g7 g8 g9 g10 g11
     by_cases hmn : m < n8
     · have hml : m < x.nams.length := by rw [← HL.out.2.1]; exact hmn
       obtain ⟨b2, o2, rfl, hat2⟩ := R8.out.at_ hml
       have s2 : wr.cell? ⟨b2, o2 + m * 2 + 1, none⟩ = some (.string (txt (x.nams[m]).2)) := hat2 wr HB2.out 1 _ rfl
       have HX2 := Lib.hid (fun hy => nams_snoc (P := fun y : Nat × List UInt8 => y.2.length ≤ 100) hml HS2.out hy)
       obtain ⟨t, ht⟩ : ∃ t, t = (x.nams[m]).2 := ⟨_, rfl⟩
       rw [← ht] at s2 HX2
       have hsz := size_txt t
       obtain ⟨T, hT⟩ : ∃ T, T = txt t := ⟨_, rfl⟩
       rw [← hT] at s2 hsz
       obtain ⟨q, hq⟩ : ∃ q, q = t.length := ⟨_, rfl⟩
       rw [← hq] at hsz HX2
       clear hat2 ht hT hq
       by_cases hqb : (100 : Int) < (q : Int)
       · go_wp2
         go_ret
         exact GreatTold.yes HB2.out
       · go_wp2
         go_roundw
         case rel => exact ⟨m + 1, by omega, by go_num, HB2, Lib.hid (HX2.out (by omega))⟩
         case measure => simp [intOf]; omega
     · obtain rfl : m = n8 := by omega
       rw [show x.nams.take m = x.nams by rw [HL.out.2.1, List.take_length]] at HS2
       have HSM : Hid (x.small) := Lib.hid (by obtain ⟨e7, e8, e9, e10, e11⟩ := HL.out; exact ⟨by omega, by omega, by omega, by omega, by omega, HS2.out⟩)
       go_wp2
       go_roundw
       case rel => exact ⟨k + 1, by omega, by go_num, HB2, Lib.hid (HX.out HSM.out)⟩
       case measure => simp [intOf]; omega
  · obtain rfl : k = n := by omega
    rw [show l.take k = l by rw [← HN.out, List.take_length]] at HS
    by_cases q : (60 : Int) < (k : Int)
    · go_wp2
      go_ret
      exact GreatTold.yes HB.out
    · go_wp2
      go_ret
      exact ⟨⟨false, rfl, fun _ => ⟨by rw [HN.out]; omega, HS.out⟩⟩, HB.out⟩
end Go.Proofs.YtheefckohnaceaaGreatDoor
