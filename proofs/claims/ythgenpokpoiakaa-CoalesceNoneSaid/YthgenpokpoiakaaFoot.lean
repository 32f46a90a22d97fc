/- Plain words, for any program: objects that have blocks of their own, and what a call on one leaves of others. No statement is proved here. -/
import Derived.Test.YthgenpokpoiakaaElts
namespace Go.Proofs.Ythgenpokpoiakaa
open Go.RowKit
set_option linter.unusedVariables false

/-- From w to w2 blocks of F alone have turned, of those that lay; blocks may be new. -/
structure Fr (F : Nat → Prop) (w w2 : World) : Prop where
  os : w2.os = w.os
  tape : w2.tape = w.tape
  output : w2.output = w.output
  size : w.heap.size ≤ w2.heap.size
  keep : ∀ k, k < w.heap.size → ¬ F k → w2.heap[k]? = w.heap[k]?
section
variable {F G : Nat → Prop} {w w2 w3 : World} {B : Nat}
theorem Fr.of_below (h : Below w.heap.size w w2) : Fr F w w2 := ⟨h.os, h.tape, h.output, h.size, fun k hk _ => h.block k hk⟩
theorem Fr.refl (F : Nat → Prop) (w : World) : Fr F w w := .of_below (Below.refl _ _)
theorem Fr.of_only {g : Nat} (h : Only g w w2) (hg : F g) : Fr F w w2 := ⟨h.os, h.tape, h.output, by rw [h.size]; exact Nat.le_refl _, fun k _ hk => h.block k (fun e => hk (by rw [e]; exact hg))⟩
theorem Fr.of_grown {row : Option Nat} (h : w.grownBy w2 row) (hr : ∀ p, row = some p → F p) : Fr F w w2 := ⟨h.os, h.tape, h.output, h.size, fun k hk hn => h.block k hk (fun e => hn (hr k e.symm))⟩
/-- Two steps, the second one on blocks of the first one's or new ones. -/
theorem Fr.trans (h : Fr F w w2) (k : Fr G w2 w3) (hG : ∀ i, G i → F i ∨ w.heap.size ≤ i) : Fr F w w3 :=
  ⟨k.os.trans h.os, k.tape.trans h.tape, k.output.trans h.output, Nat.le_trans h.size k.size, fun i hi hn => (k.keep i (Nat.lt_of_lt_of_le hi h.size) (fun hg => by
    rcases hG i hg with h1 | h1
    · exact hn h1
    · omega)).trans (h.keep i hi hn)⟩
theorem Fr.mono (h : Fr F w w2) (hF : ∀ i, F i → G i) : Fr G w w2 := ⟨h.os, h.tape, h.output, h.size, fun k hk hn => h.keep k hk (fun hf => hn (hF k hf))⟩
theorem Fr.then (h : Fr F w w2) (hb : Below w2.heap.size w2 w3) : Fr F w w3 := h.trans (G := fun _ => False) (.of_below hb) (fun _ hf => hf.elim)
theorem Fr.behind (hb : Below w.heap.size w w2) (h : Fr F w2 w3) : Fr F w w3 := (Fr.of_below (F := F) hb).trans h (fun i hi => .inl hi)
/-- What lies below all of F's blocks is as it was. -/
theorem Fr.below (h : Fr F w w2) (hF : ∀ k, F k → B ≤ k) (hB : B ≤ w.heap.size) : Below B w w2 := ⟨h.os, h.tape, h.output, h.size, fun k hk => h.keep k (by omega) (fun hf => by have := hF k hf; omega)⟩
theorem Fr.cell (h : Fr F w w2) {a : Addr} (ha : a.block < w.heap.size) (hn : ¬ F a.block) : w2.cell? a = w.cell? a := World.cell?_of_block (h.keep _ ha hn)
theorem BlkV.fr {g : Nat} {e : TypeId} {cs : List Value} (h : BlkV w g e cs) (hf : Fr F w w2) (hn : ¬ F g) : BlkV w2 g e cs := (hf.keep g h.lt hn).trans h
theorem Blk.fr {g : Nat} {e : TypeId} {bs : List UInt8} (h : Blk w g e bs) (hf : Fr F w w2) (hn : ¬ F g) : Blk w2 g e bs := (hf.keep g h.lt hn).trans h
theorem RdS.fr {A : Option Addr} {n c : Nat} {bs : List UInt8} (h : RdS w A n c bs) (hf : Fr F w w2) (hn : 0 < n → ∀ ad, A = some ad → ¬ F ad.block) : RdS w2 A n c bs := by
  refine ⟨h.1, h.2.1, h.2.2.1, h.2.2.2.1, fun h0 => ?_⟩
  obtain ⟨b, off, hA, hlt, hc⟩ := h.2.2.2.2 h0
  exact ⟨b, off, hA, Nat.lt_of_lt_of_le hlt hf.size, fun j hj => (hf.cell (a := ⟨b, off + j, none⟩) hlt (show ¬ F b from hn h0 ⟨b, off, none⟩ hA)).trans (hc j hj)⟩
theorem own_fr {base s m : Nat} {e : TypeId} {v : Value} {xs : List Value} (h : w.ownsRow base e s v m xs) (hf : Fr F w w2) (hn : ∀ g, v.ownBlock = some g → ¬ F g) : w2.ownsRow base e s v m xs := by
  refine ⟨h.1, ?_⟩
  rcases h.2 with hv | ⟨g, cap, cur, rfl, hb, hgg, rest⟩
  · exact .inl hv
  · exact .inr ⟨g, cap, cur, rfl, hb, (hf.keep g (Array.getElem?_eq_some_iff.1 hgg).1 (hn g rfl)).trans hgg, rest⟩
end
theorem own_at_same {w w2 : World} {base n : Nat} {e : TypeId} {v : Value} {xs : List Value} (h : w.ownsRow base e 1 v n xs) (hk : ∀ k, v.ownBlock = some k → w2.heap[k]? = w.heap[k]?) : w2.ownsRow base e 1 v n xs := by
  refine ⟨h.1, h.2.imp id fun ⟨g, cap, cur, h1, h2, h3, h4⟩ => ⟨g, cap, cur, h1, h2, ?_, h4⟩⟩
  rw [hk g (by rw [h1]; rfl)]
  exact h3
/-- What is said of an object speaks of its blocks alone: they lie there, and wherever they lie on it is so. -/
structure Lone {σ : Type} (R : World → Value → σ → (Nat → Prop) → Prop) : Prop where
  low : ∀ w p s F, R w p s F → ∀ k, F k → k < w.heap.size
  stay : ∀ w w2 p s F, R w p s F → w.heap.size ≤ w2.heap.size → (∀ k, F k → w2.heap[k]? = w.heap[k]?) → R w2 p s F
theorem Lone.fr {σ : Type} {R : World → Value → σ → (Nat → Prop) → Prop} (h : Lone R) {w w2 : World} {p : Value} {s : σ} {F G : Nat → Prop} (hR : R w p s F) (hf : Fr G w w2) (hn : ∀ k, F k → ¬ G k) : R w2 p s F :=
  h.stay w w2 p s F hR hf.size (fun k hk => hf.keep k (h.low w p s F hR k hk) (hn k hk))
theorem Lone.below {σ : Type} {R : World → Value → σ → (Nat → Prop) → Prop} (h : Lone R) {w w2 : World} {p : Value} {s : σ} {F : Nat → Prop} (hR : R w p s F) (hb : Below w.heap.size w w2) : R w2 p s F :=
  h.fr (G := fun _ => False) hR (.of_below hb) (fun _ _ hf => hf)
end Go.Proofs.Ythgenpokpoiakaa
