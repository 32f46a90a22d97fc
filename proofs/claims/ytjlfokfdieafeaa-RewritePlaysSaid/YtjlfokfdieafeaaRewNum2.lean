/- Plain words on rewriters (layer 22): what is so of all of them. No statement is proved here. -/
import Derived.Test.YtjlfokfdieafeaaRewR1
namespace Go.Proofs.Ytjlfokfdieafeaa
open Go.RowKit
set_option linter.unusedVariables false

theorem lt32w {n : Int} (h : (Lit.int .u32 n).wf = true) : 0 ≤ n ∧ n < 4294967296 := by have := bounds_u32 h; omega
theorem lt16w {n : Int} (h : (Lit.int .u16 n).wf = true) : 0 ≤ n ∧ n < 65536 := by have := bounds_u16 h; omega
def staW (s : Wtr) (f : Int) : Wtr := if f < 0 ∨ s.fol = true then s else { s with first := f }
theorem OkW.mono {s : Wtr} {B B2 : Int} (k : OkW s B) (h : B ≤ B2) : OkW s B2 :=
  ⟨⟨k.first.1, by have := k.first.2; omega⟩, k.th, ⟨⟨k.he.1.1, by have := k.he.1.2; omega⟩, k.he.2⟩, fun x hx => by obtain ⟨h1, h2⟩ := k.O x hx; exact ⟨⟨h1.1, by omega⟩, h2⟩⟩
theorem okM_of {x : Mpd} (h : ((-9223372036854775808 ≤ x.i ∧ x.i ≤ 4611686018427387904) ∧ (0 ≤ x.st ∧ x.st < 4294967296) ∧ 0 ≤ x.pc ∧ x.pc < 65536)) : OkM x := h
theorem wz_ok : OkW wz 0 := ⟨by decide, ⟨okM_of (by decide), fun h => by cases h⟩, by decide, fun x hx => by cases hx⟩
theorem staW_ok {s : Wtr} {B f : Int} (k : OkW s B) (h : f ≤ B) : OkW (staW s f) B := by
  unfold staW
  split
  · exact k
  · rename_i h1
    exact ⟨⟨by simp only; omega, h⟩, k.th, k.he, k.O⟩
theorem hereW_ok {s : Wtr} {B : Int} (k : OkW s B) : (0 ≤ (hereW s).i ∧ (hereW s).i ≤ B) ∧ (0 ≤ (hereW s).st ∧ (hereW s).st < 4294967296) ∧ 0 ≤ (hereW s).pc ∧ (hereW s).pc < 32768 := by
  have kf := k.first
  unfold hereW
  rcases topW_facts s with ⟨h1, h2⟩ | ⟨m, h1, h2, _⟩
  · rw [h1, if_pos (by omega)]
    simp only
    omega
  · rw [h1, if_neg (by omega), Int.toNat_natCast]
    have ht : s.O.getD m mz ∈ s.O := by
      have e : s.O.getD m mz = s.O[m] := by simp [List.getD, h2]
      rw [e]; exact List.getElem_mem h2
    have hb := k.O _ ht
    simp only
    omega
theorem folW_ok {s : Wtr} {B : Int} (k : OkW s B) {x : Mpd} (hx : OkM x) : OkW (folW s x) B := by
  unfold folW
  split
  · exact k
  · rename_i h
    exact ⟨k.first, ⟨hx, fun _ => by simp only; omega⟩, hereW_ok k, k.O⟩
theorem mapE_ok {s : Wtr} {x : Mpd} (h : mapE s x = 0) : s.fol = true ∧ 0 ≤ x.i ∧ s.th.i ≤ x.i := by
  unfold mapE at h
  split at h
  · omega
  · rename_i h1
    simp only [not_or] at h1
    split at h
    · omega
    · exact ⟨by simpa using h1.1, by omega, by omega⟩
theorem plcW_ok {s : Wtr} {B C : Int} (k : OkW s B) {x : Mpd} (hC : x.i ≤ C) (h : mapE s x = 0) : (0 ≤ (plcW s x).i ∧ (plcW s x).i ≤ B + C) ∧ (0 ≤ (plcW s x).st ∧ (plcW s x).st < 4294967296) ∧ 0 ≤ (plcW s x).pc ∧ (plcW s x).pc < 32768 := by
  obtain ⟨h1, h2, h3⟩ := mapE_ok h
  have h4 := k.th.2 h1
  have h5 := k.he
  unfold plcW
  simp only
  omega
theorem mapW_ok {s : Wtr} {B C : Int} (k : OkW s B) {x : Mpd} (hC : x.i ≤ C) (h0 : 0 ≤ C) : OkW (mapW s x) (B + C + 1) := by
  unfold mapW
  split
  · rename_i h
    have hp := plcW_ok k hC h
    have k2 := k.mono (B2 := B + C + 1) (by omega)
    refine ⟨k2.first, k2.th, k2.he, fun y hy => ?_⟩
    rcases List.mem_append.1 hy with h1 | h1
    · exact k2.O y h1
    · rw [List.mem_singleton.1 h1]; omega
  · exact k.mono (by omega)
theorem mapW_len (s : Wtr) (x : Mpd) : (mapW s x).O.length ≤ s.O.length + 1 := by
  unfold mapW; split
  · simp
  · omega
theorem folW_len (s : Wtr) (x : Mpd) : (folW s x).O.length = s.O.length := by unfold folW; split <;> rfl
theorem staW_len (s : Wtr) (f : Int) : (staW s f).O.length = s.O.length := by unfold staW; split <;> rfl
theorem highW_ok {s : Wtr} {B : Int} (k : OkW s B) (h0 : 0 ≤ B) : -1 ≤ highW s ∧ highW s ≤ B := by
  unfold highW
  rcases topW_facts s with ⟨h1, h2⟩ | ⟨m, h1, h2, _⟩
  · rw [h1, if_pos (by omega)]; omega
  · rw [h1, if_neg (by omega), Int.toNat_natCast]
    have ht : s.O.getD m mz ∈ s.O := by
      have e : s.O.getD m mz = s.O[m] := by simp [List.getD, h2]
      rw [e]; exact List.getElem_mem h2
    have hb := k.O _ ht
    omega
theorem highW_top {s : Wtr} {x : Mpd} (hx : x ∈ s.O) : x.i ≤ highW s := by
  unfold highW
  rcases topW_facts s with ⟨h1, h2⟩ | ⟨m, h1, h2, h3⟩
  · rw [h2] at hx; cases hx
  · rw [h1, if_neg (by omega), Int.toNat_natCast]
    exact h3 x hx
/-- Behind another source's beginning what begins here is above all that were. -/
theorem hereW_above (s : Wtr) : (s.O = [] ∧ highW s = -1 ∧ (hereW s).i = s.first) ∨ (hereW s).i = highW s + 1 := by
  unfold hereW highW
  rcases topW_facts s with ⟨h1, h2⟩ | ⟨m, h1, h2, _⟩
  · left
    rw [h1]
    exact ⟨h2, rfl, rfl⟩
  · right
    rw [h1, if_neg (by omega), if_neg (by omega)]
end Go.Proofs.Ytjlfokfdieafeaa
