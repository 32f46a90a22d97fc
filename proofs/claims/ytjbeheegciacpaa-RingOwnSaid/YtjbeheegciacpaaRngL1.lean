/- What the laws of layer 19 ask of package ring, as one structure; two rings beside each other, the program's and the document's. No statement is proved here. -/
import Derived.Test.YtjbeheegciacpaaRngR6
import Derived.Test.YtjbeheegciacpaaRngR7
namespace Go.Proofs.Ytjbeheegciacpaa
open Go.RowKit
set_option linter.unusedVariables false

/-- A ring as plain data: its rooms, its packets, rising. -/
structure Rgs where
  P : Int
  B : Int
  L : List Pck
/-- A slice of indices that reads. -/
def RdJ (w : World) (A : Option Addr) (n : Nat) (xs : List Int) : Prop := xs.length = n ∧ (0 < n → ∃ b off, A = some ⟨b, off, none⟩ ∧ b < w.heap.size ∧ ∀ j, j < n → w.cell? ⟨b, off + j, none⟩ = some (.int .i64 (xs.getD j 0)))
theorem RdJ.below {w w' : World} {A : Option Addr} {n : Nat} {xs : List Int} (h : RdJ w A n xs) (hb : Below w.heap.size w w') : RdJ w' A n xs := by
  refine ⟨h.1, fun hn => ?_⟩
  obtain ⟨b, off, hA, hlt, hc⟩ := h.2 hn
  exact ⟨b, off, hA, Nat.lt_of_lt_of_le hlt hb.size, fun j hj => (hb.cell (p := ⟨b, off + j, none⟩) hlt).trans (hc j hj)⟩
theorem RdJ.of_own {w : World} {base n c : Nat} {e : TypeId} {A : Option Addr} {xs : List Int} (h : w.ownsRow base e 1 (.slice A n c) n (icells xs)) : RdJ w A n xs := by
  have hl : xs.length = n := by simpa [icells_len] using h.1
  refine ⟨hl, fun hn => ?_⟩
  obtain ⟨g, c', hv, hb, hlt, hc⟩ := own_ints h hn
  injection hv with e1 e2 e3
  exact ⟨g, 0, e1, hlt, fun j hj => by rw [Nat.zero_add]; exact hc j hj⟩
/-- Behind a step of a ring that plays s: so it plays s2. -/
def Stp19 (T : World → Value → Rgs → (Nat → Prop) → Prop) (v : Value) (s2 : Rgs) (F : Nat → Prop) (w w' : World) : Prop := ∃ F', T w' v s2 F' ∧ Fr F w w' ∧ ∀ k, F' k → F k ∨ w.heap.size ≤ k
/-- What the laws ask of package ring, T being what is said of one. -/
structure Tells19 (T : World → Value → Rgs → (Nat → Prop) → Prop) : Prop where
  lone : Lone T
  new_no : ∀ (P B : Int) (w : World), (P < 1 ∨ B < 0) → Calls Try.prog 8 #[.int .i64 P, .int .i64 B] w fun e w' => e = .returned (.pointer none) ∧ Below w.heap.size w w'
  new_ok : ∀ (P B : Int) (w : World), 1 ≤ P → 0 ≤ B → P ≤ 9223372036854775807 → B ≤ 9223372036854775807 → Calls Try.prog 8 #[.int .i64 P, .int .i64 B] w fun e w' => ∃ q F, e = .returned (.pointer (some q)) ∧ Hid (T w' (.pointer (some q)) ⟨P, B, []⟩ F ∧ (∀ k, F k → w.heap.size ≤ k) ∧ Below w.heap.size w w')
  put : ∀ (w : World) (q : Addr) (s : Rgs) (F : Nat → Prop) (i : Int) (A : Option Addr) (n c : Nat) (b : List UInt8), T w (.pointer (some q)) s F → Srt s.L → 1 ≤ s.P → 0 ≤ s.B → RdS w A n c b → (0 < n → ∀ ad, A = some ad → ¬ F ad.block) → s.L.length ≤ 200 → sizD s.L + n ≤ 1000000000 → -9223372036854775808 ≤ i ∧ i ≤ 9223372036854775807 →
    Calls Try.prog 11 #[.pointer (some q), .int .i64 i, .slice A n c] w fun e w' => e = .returned (.int .i64 (putE s.P s.B s.L i b)) ∧ Hid (Stp19 T (.pointer (some q)) ⟨s.P, s.B, putG s.P s.B s.L i b⟩ F w w')
  get_yes : ∀ (w : World) (q : Addr) (s : Rgs) (F : Nat → Prop) (i : Int) (b : List UInt8), T w (.pointer (some q)) s F → Srt s.L → s.L.length ≤ 201 → (i, b) ∈ s.L → Calls Try.prog 13 #[.pointer (some q), .int .i64 i] w fun e w' => ∃ A c, e = .returned (.tuple #[.slice A b.length c, .bool true]) ∧ Hid (w'.ownsRow w.heap.size 5 1 (.slice A b.length c) b.length (cells b) ∧ Below w.heap.size w w')
  get_no : ∀ (w : World) (q : Addr) (s : Rgs) (F : Nat → Prop) (i : Int), T w (.pointer (some q)) s F → Srt s.L → s.L.length ≤ 201 → i ∉ s.L.map (·.1) → Calls Try.prog 13 #[.pointer (some q), .int .i64 i] w fun e w' => ∃ A n c, e = .returned (.tuple #[.slice A n c, .bool false]) ∧ Hid (Below w.heap.size w w')
  len : ∀ (w : World) (q : Addr) (s : Rgs) (F : Nat → Prop), T w (.pointer (some q)) s F → s.L.length ≤ 201 → Calls Try.prog 15 #[.pointer (some q)] w fun e w' => e = .returned (.int .i64 (s.L.length : Nat)) ∧ ∃ q, w' = w.drewN q
  size : ∀ (w : World) (q : Addr) (s : Rgs) (F : Nat → Prop), T w (.pointer (some q)) s F → s.L.length ≤ 201 → sizD s.L ≤ 1000000000 → Calls Try.prog 16 #[.pointer (some q)] w fun e w' => e = .returned (.int .i64 (sizD s.L : Nat)) ∧ ∃ q, w' = w.drewN q
  indices : ∀ (w : World) (q : Addr) (s : Rgs) (F : Nat → Prop), T w (.pointer (some q)) s F → s.L.length ≤ 201 → Calls Try.prog 18 #[.pointer (some q)] w fun e w' => ∃ A c, e = .returned (.slice A s.L.length c) ∧ Hid (RdJ w' A s.L.length (s.L.map (·.1)) ∧ Below w.heap.size w w')
  forget : ∀ (w : World) (q : Addr) (s : Rgs) (F : Nat → Prop) (i : Int), T w (.pointer (some q)) s F → Srt s.L → s.L.length ≤ 201 → -9223372036854775808 ≤ i ∧ i ≤ 9223372036854775807 → Calls Try.prog 9 #[.pointer (some q), .int .i64 i] w fun e w' => e = .returned (.int .i64 ((s.L.length - (forG s.L i).length : Nat) : Int)) ∧ Hid (Stp19 T (.pointer (some q)) ⟨s.P, s.B, forG s.L i⟩ F w w')
  putNil : ∀ (w : World) (i : Int) (A : Option Addr) (n c : Nat), Calls Try.prog 11 #[.pointer none, .int .i64 i, .slice A n c] w fun e w' => e = .returned (.int .i64 1) ∧ Hid (Below w.heap.size w w')
  getNil : ∀ (w : World) (i : Int), Calls Try.prog 13 #[.pointer none, .int .i64 i] w fun e w' => ∃ A n c, e = .returned (.tuple #[.slice A n c, .bool false]) ∧ Hid (Below w.heap.size w w')
  lenNil : ∀ (w : World), Calls Try.prog 15 #[.pointer none] w fun e w' => e = .returned (.int .i64 0) ∧ Hid (Below w.heap.size w w')
  sizeNil : ∀ (w : World), Calls Try.prog 16 #[.pointer none] w fun e w' => e = .returned (.int .i64 0) ∧ Hid (Below w.heap.size w w')
  indicesNil : ∀ (w : World), Calls Try.prog 18 #[.pointer none] w fun e w' => ∃ A c, e = .returned (.slice A 0 c) ∧ Hid (Below w.heap.size w w')
  forgetNil : ∀ (w : World) (i : Int), Calls Try.prog 9 #[.pointer none, .int .i64 i] w fun e w' => e = .returned (.int .i64 0) ∧ Hid (Below w.heap.size w w')

/-- A ring of the call's own: all its blocks have come since w0, and none of them is K's. -/
structure On19 (T : World → Value → Rgs → (Nat → Prop) → Prop) (w0 : World) (K : Nat → Prop) (v : Value) (s : Rgs) (wx : World) : Prop where
  ex : ∃ F, T wx v s F ∧ ∀ k, F k → w0.heap.size ≤ k ∧ ¬ K k
  kept : ∀ k, K k → k < wx.heap.size
  below : Below w0.heap.size w0 wx
/-- K's blocks lie as they lay. -/
def Sam (K : Nat → Prop) (w w' : World) : Prop := ∀ k, K k → w'.heap[k]? = w.heap[k]?
theorem Sam.trans {K : Nat → Prop} {a b c : World} (h : Sam K a b) (k : Sam K b c) : Sam K a c := fun i hi => (k i hi).trans (h i hi)
theorem BlkV.sam {K : Nat → Prop} {a b : World} {g : Nat} {e : TypeId} {cs : List Value} (h : BlkV a g e cs) (k : Sam K a b) (hg : K g) : BlkV b g e cs := (k g hg).trans h
section
variable {T : World → Value → Rgs → (Nat → Prop) → Prop} {K : Nat → Prop} {w0 wx wy : World} {v : Value} {s s2 : Rgs}
theorem On19.on (hT : Tells19 T) (h : On19 T w0 K v s wx) (hb : Below wx.heap.size wx wy) : On19 T w0 K v s wy ∧ Sam K wx wy := by
  obtain ⟨F, h1, h2⟩ := h.ex
  exact ⟨⟨⟨F, hT.lone.below h1 hb, h2⟩, fun k hk => Nat.lt_of_lt_of_le (h.kept k hk) hb.size, h.below.trans (hb.mono h.below.size)⟩, fun k hk => hb.block k (h.kept k hk)⟩
theorem On19.stp {F : Nat → Prop} (h : On19 T w0 K v s wx) (hF : ∀ k, F k → w0.heap.size ≤ k ∧ ¬ K k) (hs : Stp19 T v s2 F wx wy) : On19 T w0 K v s2 wy ∧ Sam K wx wy := by
  obtain ⟨F', h1, h2, h3⟩ := hs
  have hz := h.below.size
  refine ⟨⟨⟨F', h1, fun k hk => (h3 k hk).elim (hF k) (fun h4 => ⟨by omega, fun hk2 => by have := h.kept k hk2; omega⟩)⟩, fun k hk => Nat.lt_of_lt_of_le (h.kept k hk) h2.size, h.below.trans (h2.below (fun k hk => (hF k hk).1) h.below.size)⟩, fun k hk => h2.keep k (h.kept k hk) (fun hf => (hF k hf).2 hk)⟩
/-- A block that has just come is kept from now on. -/
theorem On19.more (hT : Tells19 T) (h : On19 T w0 K v s wx) (o : Obj) : On19 T w0 (fun k => K k ∨ k = wx.heap.size) v s (wx.alloc o) := by
  obtain ⟨F, h1, h2⟩ := h.ex
  have hb : Below wx.heap.size wx (wx.alloc o) := (Below.refl _ _).alloc (Nat.le_refl _) _
  refine ⟨⟨F, hT.lone.below h1 hb, fun k hk => ⟨(h2 k hk).1, ?_⟩⟩, ?_, h.below.trans (hb.mono h.below.size)⟩
  · rintro (h3 | rfl)
    · exact (h2 k hk).2 h3
    · have := hT.lone.low _ _ _ _ h1 _ hk
      omega
  · rintro k (h3 | rfl)
    · have := h.kept k h3; simp; omega
    · simp
/-- All that has come since is kept from now on. -/
theorem On19.span (hT : Tells19 T) (h : On19 T w0 K v s wx) (hb : Below wx.heap.size wx wy) : On19 T w0 (fun k => K k ∨ (wx.heap.size ≤ k ∧ k < wy.heap.size)) v s wy := by
  obtain ⟨F, h1, h2⟩ := h.ex
  refine ⟨⟨F, hT.lone.below h1 hb, fun k hk => ⟨(h2 k hk).1, ?_⟩⟩, ?_, h.below.trans (hb.mono h.below.size)⟩
  · rintro (h3 | h3)
    · exact (h2 k hk).2 h3
    · have := hT.lone.low _ _ _ _ h1 _ hk
      omega
  · rintro k (h3 | h3)
    · exact Nat.lt_of_lt_of_le (h.kept k h3) hb.size
    · exact h3.2
/-- One of the blocks that are kept turns. -/
theorem On19.poke (hT : Tells19 T) (h : On19 T w0 K v s wx) {g : Nat} (hg : K g) (h0 : w0.heap.size ≤ g) (ho : Only g wx wy) : On19 T w0 K v s wy := by
  obtain ⟨F, h1, h2⟩ := h.ex
  exact ⟨⟨F, hT.lone.fr h1 (Fr.of_only (F := fun k => k = g) ho rfl) (fun k hk e => (h2 k hk).2 (by rw [e]; exact hg)), h2⟩, fun k hk => by rw [ho.size]; exact h.kept k hk, h.below.trans (ho.below h0)⟩
theorem On19.less {K2 : Nat → Prop} (h : On19 T w0 K v s wx) (hk : ∀ k, K2 k → K k) : On19 T w0 K2 v s wx := by
  obtain ⟨F, h1, h2⟩ := h.ex
  exact ⟨⟨F, h1, fun k hk2 => ⟨(h2 k hk2).1, fun h3 => (h2 k hk2).2 (hk k h3)⟩⟩, fun k hk2 => h.kept k (hk k hk2), h.below⟩
end
end Go.Proofs.Ytjbeheegciacpaa
