/- What the two statements of layer 4 share: that the document's example comes out, as the statements ask first. No statement is proved here. -/
import Derived.Test.YtihaiplkkamkoaaDoorMac5
import Derived.Test.YtihaiplkkamkoaaDoorMacRef
import Derived.Lib.SlBytesConst
namespace Go.Proofs.YtihaiplkkamkoaaDoor
open Go.RowKit
set_option linter.unusedVariables false

theorem conv_own {w : World} {base n : Nat} {v : Value} {bs : List UInt8} (h : w.ownsRow base 5 1 v n (cells bs)) : (convert 22 9 v).run Tryd.prog w = .ok (.string (txt bs)) w := by
  obtain ⟨A, c, rfl⟩ := own_form h
  exact run_conv (RdS.of_own h) 22 9 5 Tryd.underlying22 Tryd.underlying5 Tryd.underlying9
theorem conv_rd {w : World} {A : Option Addr} {n c : Nat} {bs : List UInt8} (h : RdS w A n c bs) : (convert 22 9 (.slice A n c)).run Tryd.prog w = .ok (.string (txt bs)) w :=
  run_conv h 22 9 5 Tryd.underlying22 Tryd.underlying5 Tryd.underlying9

/-- The bytes of a constant text. -/
theorem rd_lit (w : World) (e : TypeId) (bs : List UInt8) (C : Array Value) (fz : Nat × Nat) (n : Nat) (hC : C = (cells bs).toArray) (hn : bs.length = n) (hm : n ≤ maxLen) : RdS (w.alloc (.cells C e fz)) (some ⟨w.heap.size, 0, none⟩) n n bs := by
  subst hC
  refine ⟨hn, Nat.le_refl _, hm, fun h => by simp at h, fun _ => ⟨w.heap.size, 0, rfl, by simp, fun j hj => ?_⟩⟩
  rw [Nat.zero_add, cell_of_row _ _ j _ e fz (heap_alloc_new w _)]
  simpa using cells_at (bs := bs) (j := j) (by omega)

theorem alive_tag (w : World) (ht : Tab w) (hw : 0 < w.heap.size) (C1 C2 C3 : Array Value) (h1 : C1 = (cells exKey).toArray) (h2 : C2 = (cells exA).toArray) (h3 : C3 = (cells exB).toArray) :
    Calls Tryd.prog 7 #[.slice (some ⟨w.heap.size, 0, none⟩) 4 4, .int .i64 20, .slice (some ⟨w.heap.size + 1 + 1 + 1, 0, none⟩) 2 2]
      ((((w.alloc (.cells C1 5 (4, 5))).alloc (.cells C2 5 (16, 17))).alloc (.cells C3 5 (12, 13))).alloc (.cells #[.slice (some ⟨w.heap.size + 1, 0, none⟩) 16 16, .slice (some ⟨w.heap.size + 1 + 1, 0, none⟩) 12 12] 22))
      fun e w' => ∃ A', e = .returned (.slice A' 20 20) ∧ (convert 22 9 (.slice A' 20 20)).run Tryd.prog w' = .ok (.string (txt [239, 252, 223, 106, 229, 235, 47, 162, 210, 116, 22, 213, 241, 132, 223, 156, 37, 154, 124, 121])) w' ∧ Below w.heap.size w w' := by
  have r1 := rd_lit w 5 exKey C1 (4, 5) 4 h1 rfl (by simp [maxLen])
  have b1 : Below w.heap.size w (w.alloc (.cells C1 5 (4, 5))) := (Below.refl _ _).alloc (Nat.le_refl _) _
  obtain ⟨w1, e1⟩ : ∃ w1, w1 = w.alloc (.cells C1 5 (4, 5)) := ⟨_, rfl⟩
  have z1 : w1.heap.size = w.heap.size + 1 := by rw [e1]; simp
  rw [← e1] at r1 b1 ⊢
  have r2 := rd_lit w1 5 exA C2 (16, 17) 16 h2 rfl (by simp [maxLen])
  have b2 : Below w1.heap.size w1 (w1.alloc (.cells C2 5 (16, 17))) := (Below.refl _ _).alloc (Nat.le_refl _) _
  obtain ⟨w2, e2⟩ : ∃ w2, w2 = w1.alloc (.cells C2 5 (16, 17)) := ⟨_, rfl⟩
  have z2 : w2.heap.size = w.heap.size + 1 + 1 := by rw [e2]; simp [z1]
  rw [← e2] at r2 b2 ⊢
  have r3 := rd_lit w2 5 exB C3 (12, 13) 12 h3 rfl (by simp [maxLen])
  have b3 : Below w2.heap.size w2 (w2.alloc (.cells C3 5 (12, 13))) := (Below.refl _ _).alloc (Nat.le_refl _) _
  obtain ⟨w3, e3⟩ : ∃ w3, w3 = w2.alloc (.cells C3 5 (12, 13)) := ⟨_, rfl⟩
  have z3 : w3.heap.size = w.heap.size + 1 + 1 + 1 := by rw [e3]; simp [z2]
  rw [← e3] at r3 b3 ⊢
  rw [z1] at r2
  rw [z2] at r3
  have hp := parts_lit2 (r2.below b3) r3 22
  rw [z3] at hp
  have b4 : Below w3.heap.size w3 (w3.alloc (.cells #[.slice (some ⟨w.heap.size + 1, 0, none⟩) 16 16, .slice (some ⟨w.heap.size + 1 + 1, 0, none⟩) 12 12] 22)) := (Below.refl _ _).alloc (Nat.le_refl _) _
  have b13 := b1.trans ((b2.trans (b3.mono b2.size)).mono (by omega))
  have b14 := b13.trans (b4.mono b13.size)
  have hk := ((r1.below b2).below b3).below b4
  have htg := tag_any _ 4 4 exKey 20 _ 2 2 _ _ (tab_below ht b14) (by simp) hk (by omega) (by omega) hp (by omega) (by simp [exA, exB])
  have hf : [exA, exB].flatten = exA ++ exB := by simp
  have hT : tagB 20 (macFull exKey (exA ++ exB)) = [239, 252, 223, 106, 229, 235, 47, 162, 210, 116, 22, 213, 241, 132, 223, 156, 37, 154, 124, 121] := by rw [ex_is]; rfl
  rw [hf, hT, show cutN 20 = 20 from rfl] at htg
  refine htg.mono fun e w' ⟨A', he, hrd, hb⟩ => ⟨A', he, conv_rd hrd, b14.trans (hb.mono b14.size)⟩

/-- A constant's bytes, behind one and behind two others. -/
theorem const_at (w : World) (g : Nat) (hg : w.heap.size = g) (C : Array Value) (n c : Nat) :
    (convert 22 22 (.slice (some ⟨g, 0, none⟩) n c)).run Tryd.prog (w.alloc (.cells C 5)) = .ok (.slice (some ⟨g, 0, none⟩) n c) (w.alloc (.cells C 5 (C.size, C.size + 1))) := by
  subst hg
  exact Lib.run_convert_bytes_const (P := Tryd.prog) w 22 5 C n c Tryd.underlying22 Tryd.underlying5

theorem alive_any (w : World) (ht : Tab w) (hw : 0 < w.heap.size) : Calls Tryd.prog 5 #[] w fun e w' => e = .returned (.bool true) ∧ Below w.heap.size w w' := by
  have HT := Lib.hid (alive_tag w ht hw)
  have kc := fun (w : World) (C : Array Value) (n c : Nat) => Lib.run_convert_bytes_const (P := Tryd.prog) w 22 5 C n c Tryd.underlying22 Tryd.underlying5
  have htx : ((txt [239, 252, 223, 106, 229, 235, 47, 162, 210, 116, 22, 213, 241, 132, 223, 156, 37, 154, 124, 121]).toList == [239, 252, 223, 106, 229, 235, 47, 162, 210, 116, 22, 213, 241, 132, 223, 156, 37, 154, 124, 121]) = true := by rw [txt_toList]; rfl
  have kc2 := fun (w : World) (C1 C : Array Value) (f1 : Nat × Nat) (n c : Nat) => const_at (w.alloc (.cells C1 5 f1)) (w.heap.size + 1) (by simp) C n c
  have kc3 := fun (w : World) (C1 C2 C : Array Value) (f1 f2 : Nat × Nat) (n c : Nat) => const_at ((w.alloc (.cells C1 5 f1)).alloc (.cells C2 5 f2)) (w.heap.size + 1 + 1) (by simp) C n c
  go_enter Tryd.func5, Tryd.ntmps5
  go_wp2_with (first
    | (go_at_call 7; (refine (HT.out _ _ _ (by rfl) (by rfl) (by rfl)).mono ?_; rintro e w1 ⟨A', rfl, hcv, hb1⟩)))
  go_ret
  exact ⟨rfl, hb1⟩
end Go.Proofs.YtihaiplkkamkoaaDoor
