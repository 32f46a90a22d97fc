/- Plain words, for any program: two objects of the call's own beside each other (PairK), a step that answers with something kept (StpB). No statement is proved here. -/
import Derived.Test.YthgenpokpoiakaaOnK
namespace Go.Proofs.Ythgenpokpoiakaa
open Go.RowKit
set_option linter.unusedVariables false

/-- A step of an object that leaves blocks B beside it, that are not its own. -/
def StpB {σ : Type} (T : World → Value → σ → (Nat → Prop) → Prop) (v : Value) (s2 : σ) (F B : Nat → Prop) (w w' : World) : Prop := ∃ F', T w' v s2 F' ∧ Fr F w w' ∧ (∀ k, F' k → F k ∨ w.heap.size ≤ k) ∧ ∀ k, B k → w.heap.size ≤ k ∧ k < w'.heap.size ∧ ¬ F' k
theorem StpB.stp {σ : Type} {T : World → Value → σ → (Nat → Prop) → Prop} {v : Value} {s2 : σ} {F B : Nat → Prop} {w w' : World} (h : StpB T v s2 F B w w') : StpK T v s2 F w w' := by
  obtain ⟨F', h1, h2, h3, _⟩ := h
  exact ⟨F', h1, h2, h3⟩
theorem StpK.stpB {σ : Type} {T : World → Value → σ → (Nat → Prop) → Prop} {v : Value} {s2 : σ} {F : Nat → Prop} {w w' : World} (h : StpK T v s2 F w w') : StpB T v s2 F (fun _ => False) w w' := by
  obtain ⟨F', h1, h2, h3⟩ := h
  exact ⟨F', h1, h2, h3, fun k hk => hk.elim⟩
/-- The block that an answer of n elements stands in. -/
def BlkOf (A : Option Addr) (n : Nat) (k : Nat) : Prop := 0 < n ∧ ∃ ad, A = some ad ∧ k = ad.block
/-- Two objects, apart. -/
def PairK {σ τ : Type} (T1 : World → Value → σ → (Nat → Prop) → Prop) (T2 : World → Value → τ → (Nat → Prop) → Prop) (v2 : Value) (w : World) (v : Value) (s : σ × τ) (F : Nat → Prop) : Prop :=
  ∃ F1 F2, T1 w v s.1 F1 ∧ T2 w v2 s.2 F2 ∧ (∀ k, F k ↔ F1 k ∨ F2 k) ∧ ∀ k, F1 k → ¬ F2 k
section
variable {σ τ : Type} {T : World → Value → σ → (Nat → Prop) → Prop} {T1 : World → Value → σ → (Nat → Prop) → Prop} {T2 : World → Value → τ → (Nat → Prop) → Prop} {K : Nat → Prop} {w0 wx wy : World} {v v2 : Value} {s s2 : σ} {t t2 : τ}
theorem OnK.stpB {F B : Nat → Prop} (h : OnK T w0 K v s wx) (hF : ∀ k, F k → w0.heap.size ≤ k ∧ ¬ K k) (hs : StpB T v s2 F B wx wy) : OnK T w0 (fun k => K k ∨ B k) v s2 wy ∧ SamK K wx wy := by
  obtain ⟨F', h1, h2, h3, h4⟩ := hs
  have hz := h.below.size
  refine ⟨⟨⟨F', h1, fun k hk => ⟨?_, ?_⟩⟩, ?_, h.below.trans (h2.below (fun k hk => (hF k hk).1) h.below.size)⟩, fun k hk => h2.keep k (h.kept k hk) (fun hf => (hF k hf).2 hk)⟩
  · rcases h3 k hk with h5 | h5
    · exact (hF k h5).1
    · omega
  · rintro (h5 | h5)
    · rcases h3 k hk with h6 | h6
      · exact (hF k h6).2 h5
      · have := h.kept k h5; omega
    · exact (h4 k h5).2.2 hk
  · rintro k (h5 | h5)
    · exact Nat.lt_of_lt_of_le (h.kept k h5) h2.size
    · exact (h4 k h5).2.1
theorem lone_pair (h1 : Lone T1) (h2 : Lone T2) (v2 : Value) : Lone (PairK T1 T2 v2) where
  low := fun w p s F ⟨F1, F2, a1, a2, a3, _⟩ k hk => ((a3 k).1 hk).elim (h1.low _ _ _ _ a1 k) (h2.low _ _ _ _ a2 k)
  stay := fun w w2 p s F ⟨F1, F2, a1, a2, a3, a4⟩ hz hk => ⟨F1, F2, h1.stay _ _ _ _ _ a1 hz (fun k hk2 => hk k ((a3 k).2 (.inl hk2))), h2.stay _ _ _ _ _ a2 hz (fun k hk2 => hk k ((a3 k).2 (.inr hk2))), a3, a4⟩
/-- The first one's next step. -/
theorem OnK.one (h1 : Lone T1) (h2 : Lone T2) (h : OnK (PairK T1 T2 v2) w0 K v (s, t) wx) : ∃ F1, T1 wx v s F1 ∧ ∀ s' B wy, StpB T1 v s' F1 B wx wy → OnK (PairK T1 T2 v2) w0 (fun k => K k ∨ B k) v (s', t) wy ∧ SamK K wx wy := by
  obtain ⟨F, ⟨F1, F2, a1, a2, a3, a4⟩, hF⟩ := h.ex
  refine ⟨F1, a1, fun s' B wy ⟨F', b1, b2, b3, b4⟩ => h.stpB hF ⟨fun k => F' k ∨ F2 k, ⟨F', F2, b1, h2.fr a2 b2 (fun k hk hk1 => a4 k hk1 hk), fun k => Iff.rfl, fun k hk hk2 => ?_⟩, b2.mono (fun k hk => (a3 k).2 (.inl hk)), fun k hk => ?_, fun k hk => ⟨(b4 k hk).1, (b4 k hk).2.1, ?_⟩⟩⟩
  · rcases b3 k hk with h5 | h5
    · exact a4 k h5 hk2
    · have := h2.low _ _ _ _ a2 k hk2; omega
  · rcases hk with hk | hk
    · exact (b3 k hk).imp (fun h => (a3 k).2 (.inl h)) id
    · exact .inl ((a3 k).2 (.inr hk))
  · rintro (h5 | h5)
    · exact (b4 k hk).2.2 h5
    · have := h2.low _ _ _ _ a2 k h5; have := (b4 k hk).1; omega
/-- The second one's next step. -/
theorem OnK.two (h1 : Lone T1) (h2 : Lone T2) (h : OnK (PairK T1 T2 v2) w0 K v (s, t) wx) : ∃ F2, T2 wx v2 t F2 ∧ ∀ t' B wy, StpB T2 v2 t' F2 B wx wy → OnK (PairK T1 T2 v2) w0 (fun k => K k ∨ B k) v (s, t') wy ∧ SamK K wx wy := by
  obtain ⟨F, ⟨F1, F2, a1, a2, a3, a4⟩, hF⟩ := h.ex
  refine ⟨F2, a2, fun t' B wy ⟨F', b1, b2, b3, b4⟩ => h.stpB hF ⟨fun k => F1 k ∨ F' k, ⟨F1, F', h1.fr a1 b2 (fun k hk => a4 k hk), b1, fun k => Iff.rfl, fun k hk hk2 => ?_⟩, b2.mono (fun k hk => (a3 k).2 (.inr hk)), fun k hk => ?_, fun k hk => ⟨(b4 k hk).1, (b4 k hk).2.1, ?_⟩⟩⟩
  · rcases b3 k hk2 with h5 | h5
    · exact a4 k hk h5
    · have := h1.low _ _ _ _ a1 k hk; omega
  · rcases hk with hk | hk
    · exact .inl ((a3 k).2 (.inl hk))
    · exact (b3 k hk).imp (fun h => (a3 k).2 (.inr h)) id
  · rintro (h5 | h5)
    · have := h1.low _ _ _ _ a1 k h5; have := (b4 k hk).1; omega
    · exact (b4 k hk).2.2 h5
/-- A second one is made beside the first one. -/
theorem OnK.pair (h1 : Lone T1) (h : OnK T1 w0 K v s wx) {F2 : Nat → Prop} (hn : T2 wy v2 t F2 ∧ (∀ k, F2 k → wx.heap.size ≤ k) ∧ Below wx.heap.size wx wy) : OnK (PairK T1 T2 v2) w0 K v (s, t) wy ∧ SamK K wx wy := by
  obtain ⟨F, a1, a2⟩ := h.ex
  obtain ⟨n1, n2, n3⟩ := hn
  have hz := h.below.size
  refine ⟨⟨⟨fun k => F k ∨ F2 k, ⟨F, F2, h1.below a1 n3, n1, fun k => Iff.rfl, fun k hk hk2 => ?_⟩, fun k hk => ?_⟩, fun k hk => Nat.lt_of_lt_of_le (h.kept k hk) n3.size, h.below.trans (n3.mono hz)⟩, fun k hk => n3.block k (h.kept k hk)⟩
  · have := h1.low _ _ _ _ a1 k hk; have := n2 k hk2; omega
  · rcases hk with hk | hk
    · exact a2 k hk
    · exact ⟨by have := n2 k hk; omega, fun h5 => by have := h.kept k h5; have := n2 k hk; omega⟩
end
end Go.Proofs.Ythgenpokpoiakaa
