/- Plain words, for any program: an object of the call's own beside blocks that are kept. No statement is proved here. -/
import Derived.Test.YthgenpokpoiakaaFoot
namespace Go.Proofs.Ythgenpokpoiakaa
open Go.RowKit
set_option linter.unusedVariables false

theorem drewN_bel (w : World) (m : Nat) : Below w.heap.size w (w.drewN m) := ⟨rfl, rfl, rfl, Nat.le_refl _, fun _ _ => rfl⟩
/-- Behind a step of an object that plays s: so it plays s2, in blocks that it had or that are new. -/
def StpK {σ : Type} (T : World → Value → σ → (Nat → Prop) → Prop) (v : Value) (s2 : σ) (F : Nat → Prop) (w w' : World) : Prop := ∃ F', T w' v s2 F' ∧ Fr F w w' ∧ ∀ k, F' k → F k ∨ w.heap.size ≤ k
/-- An object of the call's own: all its blocks have come since w0, and none of them is K's. -/
structure OnK {σ : Type} (T : World → Value → σ → (Nat → Prop) → Prop) (w0 : World) (K : Nat → Prop) (v : Value) (s : σ) (wx : World) : Prop where
  ex : ∃ F, T wx v s F ∧ ∀ k, F k → w0.heap.size ≤ k ∧ ¬ K k
  kept : ∀ k, K k → k < wx.heap.size
  below : Below w0.heap.size w0 wx
/-- K's blocks lie as they lay. -/
def SamK (K : Nat → Prop) (w w' : World) : Prop := ∀ k, K k → w'.heap[k]? = w.heap[k]?
theorem SamK.trans {K : Nat → Prop} {a b c : World} (h : SamK K a b) (k : SamK K b c) : SamK K a c := fun i hi => (k i hi).trans (h i hi)
theorem SamK.less {K K2 : Nat → Prop} {a b : World} (h : SamK K a b) (hk : ∀ k, K2 k → K k) : SamK K2 a b := fun i hi => h i (hk i hi)
theorem BlkV.samK {K : Nat → Prop} {a b : World} {g : Nat} {e : TypeId} {cs : List Value} (h : BlkV a g e cs) (k : SamK K a b) (hg : K g) : BlkV b g e cs := (k g hg).trans h
section
variable {σ : Type} {T : World → Value → σ → (Nat → Prop) → Prop} {K : Nat → Prop} {w0 wx wy : World} {v : Value} {s s2 : σ}
/-- One that has just been made. -/
theorem OnK.new {F : Nat → Prop} (hb0 : Below w0.heap.size w0 wx) (h : T wy v s F ∧ (∀ k, F k → wx.heap.size ≤ k) ∧ Below wx.heap.size wx wy) : OnK T w0 (fun _ => False) v s wy :=
  ⟨⟨F, h.1, fun k hk => ⟨by have := h.2.1 k hk; have := hb0.size; omega, fun hf => hf⟩⟩, fun k hk => hk.elim, hb0.trans (h.2.2.mono hb0.size)⟩
/-- One that has just been made, beside blocks that lay. -/
theorem OnK.newK {F : Nat → Prop} (hb0 : Below w0.heap.size w0 wx) (hK : ∀ k, K k → k < wx.heap.size) (h : T wy v s F ∧ (∀ k, F k → wx.heap.size ≤ k) ∧ Below wx.heap.size wx wy) : OnK T w0 K v s wy ∧ SamK K wx wy :=
  ⟨⟨⟨F, h.1, fun k hk => ⟨by have := h.2.1 k hk; have := hb0.size; omega, fun hf => by have := h.2.1 k hk; have := hK k hf; omega⟩⟩, fun k hk => Nat.lt_of_lt_of_le (hK k hk) h.2.2.size, hb0.trans (h.2.2.mono hb0.size)⟩, fun k hk => h.2.2.block k (hK k hk)⟩
theorem OnK.on (hL : Lone T) (h : OnK T w0 K v s wx) (hb : Below wx.heap.size wx wy) : OnK T w0 K v s wy ∧ SamK K wx wy := by
  obtain ⟨F, h1, h2⟩ := h.ex
  exact ⟨⟨⟨F, hL.below h1 hb, h2⟩, fun k hk => Nat.lt_of_lt_of_le (h.kept k hk) hb.size, h.below.trans (hb.mono h.below.size)⟩, fun k hk => hb.block k (h.kept k hk)⟩
theorem OnK.stp {F : Nat → Prop} (h : OnK T w0 K v s wx) (hF : ∀ k, F k → w0.heap.size ≤ k ∧ ¬ K k) (hs : StpK T v s2 F wx wy) : OnK T w0 K v s2 wy ∧ SamK K wx wy := by
  obtain ⟨F', h1, h2, h3⟩ := hs
  have hz := h.below.size
  refine ⟨⟨⟨F', h1, fun k hk => (h3 k hk).elim (hF k) (fun h4 => ⟨by omega, fun hk2 => by have := h.kept k hk2; omega⟩)⟩, fun k hk => Nat.lt_of_lt_of_le (h.kept k hk) h2.size, h.below.trans (h2.below (fun k hk => (hF k hk).1) h.below.size)⟩, fun k hk => h2.keep k (h.kept k hk) (fun hf => (hF k hf).2 hk)⟩
/-- All that has come since is kept from now on. -/
theorem OnK.span (hL : Lone T) (h : OnK T w0 K v s wx) (hb : Below wx.heap.size wx wy) : OnK T w0 (fun k => K k ∨ (wx.heap.size ≤ k ∧ k < wy.heap.size)) v s wy := by
  obtain ⟨F, h1, h2⟩ := h.ex
  refine ⟨⟨F, hL.below h1 hb, fun k hk => ⟨(h2 k hk).1, ?_⟩⟩, ?_, h.below.trans (hb.mono h.below.size)⟩
  · rintro (h3 | h3)
    · exact (h2 k hk).2 h3
    · have := hL.low _ _ _ _ h1 _ hk
      omega
  · rintro k (h3 | h3)
    · exact Nat.lt_of_lt_of_le (h.kept k h3) hb.size
    · exact h3.2
/-- One of the blocks that are kept turns. -/
theorem OnK.poke (hL : Lone T) (h : OnK T w0 K v s wx) {g : Nat} (hg : K g) (h0 : w0.heap.size ≤ g) (ho : Only g wx wy) : OnK T w0 K v s wy := by
  obtain ⟨F, h1, h2⟩ := h.ex
  exact ⟨⟨F, hL.fr h1 (Fr.of_only (F := fun k => k = g) ho rfl) (fun k hk e => (h2 k hk).2 (by rw [e]; exact hg)), h2⟩, fun k hk => by rw [ho.size]; exact h.kept k hk, h.below.trans (ho.below h0)⟩
theorem OnK.less {K2 : Nat → Prop} (h : OnK T w0 K v s wx) (hk : ∀ k, K2 k → K k) : OnK T w0 K2 v s wx := by
  obtain ⟨F, h1, h2⟩ := h.ex
  exact ⟨⟨F, h1, fun k hk2 => ⟨(h2 k hk2).1, fun h3 => (h2 k hk2).2 (hk k h3)⟩⟩, fun k hk2 => h.kept k (hk k hk2), h.below⟩
end
end Go.Proofs.Ythgenpokpoiakaa
