/- Plain words, for any program: a loop over an iterator whose elements' cells the body may turn, as one law; a region that draws its order within a round. No statement is proved here. -/
import Derived.Test.YtkmacpmdgbhhkaaRng
import Derived.Test.YtkmacpmdgbhhkaaReg
import Derived.OrdersIn
namespace Go.Proofs.Ytkmacpmdgbhhkaa
open Go.RowKit
set_option linter.unusedVariables false

/-- A region that draws its order and defers nothing goes in a wide fence, in a round or not, as anywhere. -/
theorem wpAny_in {F : Fence} (hF : Wide F) {P : Program} {n : Nat} {md : Region.Mode} {ops : Array Oper} {Q : Exit → Act → World → Prop} (hd : ∀ (i : Nat) (o : Oper), ops[i]? = some o → ∀ c, o.op ≠ .defer c) : ∀ (fuel : Nat) (listed : Array Bool) (a : Act) (w : World),
    wpAny P md ops (fun e a2 w2 => e = .normal ∧ Q .normal a2 w2) fuel listed a w → wpAnyIn F n P md ops Q fuel listed a w
  | 0, listed, a, w, h => ⟨h.1, h.2.2⟩
  | fuel + 1, listed, a, w, h => by
    refine ⟨fun hr => (h.1 hr).2, fun i hi => ?_⟩
    have h2 := h.2 i hi
    unfold wpOp at h2
    unfold wpOpIn
    cases ho : ops[i]? with
    | none =>
      rw [ho] at h2
      exact wpAny_in hF hd fuel _ _ _ h2
    | some o =>
      rw [ho] at h2
      simp only at h2 ⊢
      by_cases hw : Region.wanted o (yielded ops a.tmps) = true
      · rw [if_pos hw] at h2 ⊢
        rcases h2 with h2 | h2
        · have h3 := oper_round (K2 := fun a2 w2 => wpAnyIn F n P md ops Q fuel (listed.setIfInBounds i true) a2 w2) hF (n := n) (hd i o ho) (fun a2 w2 h => wpAny_in hF hd fuel _ _ _ h) h2
          refine ⟨h3.1, ?_⟩
          have h3 := h3.2
          generalize (o.semAt F.round a.eval).run P w = r at h3 ⊢
          cases r with
          | ok nx w2 =>
            cases nx with
            | value v => exact h3
            | skip => exact h3
            | defer d => exact h3
            | enter f args =>
              refine ⟨h3.1, CallsIn.mono h3.2 ?_⟩
              intro e4 w4 h4
              cases e4 with
              | returned v => exact h4
              | panicked ch => cases h4.1
              | outgrown => obtain ⟨_, _, h5⟩ := h4; cases h5.1
            | row r args => exact h3
            | round l2 f t2 as2 b2 =>
              refine ⟨h3.1, RoundIn.mono h3.2 ?_⟩
              intro e4 w4 h4
              cases e4 with
              | returned v => exact h4
              | panicked ch => cases h4.1
              | outgrown => obtain ⟨_, _, h5⟩ := h4; cases h5.1
            | _ => exact h3
          | halt hh w2 =>
            cases hh with
            | panic v => cases (show _ ∧ _ from h3).1
            | _ => exact h3
        · obtain ⟨_, _, _, h3⟩ := h2
          cases h3.1
      · rw [if_neg hw] at h2 ⊢
        exact ⟨fun f _ => hF.1 f, wpAny_in hF hd fuel _ _ _ h2⟩
theorem in_drawn {F : Fence} (hF : Wide F) {P : Program} {n id : Nat} {ops : Array Oper} {Q : Exit → Act → World → Prop} {a : Act} {w : World} (S : World → Prop) (hm : P.follows .mixedOrders = true) (hd : (ops.all fun o => match o.op with | .defer _ => false | _ => true) = true)
    (h : wpAnyH P .any ops (fun e a2 w2 => e = .normal ∧ Q .normal a2 w2) S ops.size (Array.replicate ops.size false) a w.drew) : (Code.region id ops true).wpIn F n P Q a w :=
  wpIn_region_any hm (wpAny_in hF (fun i o ho c hc => by
    rw [Array.all_eq_true] at hd
    obtain ⟨hi, rfl⟩ := Array.getElem?_eq_some_iff.1 ho
    have := hd i hi
    rw [hc] at this
    cases this) _ _ _ _ (wpAny_of_held _ _ _ _ h))
/-- An iterator's word, of elements whose cells the loop's body may turn: Fit is what the iterator asks of memory when these have been handed on. -/
def IterF {α : Type} (P : Program) (g : Nat) (lb : Array Value) (Enc : α → Array Value → World → Prop) (Ok : List α → α → Prop) (S : List α → Prop) (Fit : List α → World → Prop) (w : World) : Prop :=
  ∀ (l : Nat) (J Jx : List α → World → Prop) (W : World), Below w.heap.size w W →
    (∀ s W W2, J s W → Below W.heap.size W W2 → J s W2) → (∀ s W W2, Jx s W → Below W.heap.size W W2 → Jx s W2) →
    (∀ s W, J s W → Fit s W) →
    (∀ pre x args W1, J pre W1 → Ok pre x → Enc x args W1 → YieldAt Fence.wide 0 P l args W1 fun e W2 =>
      (e = .returned (.bool true) ∧ J (pre ++ [x]) W2) ∨ (e = .returned (.bool false) ∧ Jx (pre ++ [x]) W2)) →
    J [] W →
    CallsIn Fence.wide 1 P g (#[.func (.yield l) #[] #[]] ++ lb) W fun e W2 => (∃ v, e = .returned v) ∧ ((∃ xs, S xs ∧ J xs W2) ∨ (∃ pre, Jx pre W2))
/-- How a round's body may be left. -/
def rngPostF {α : Type} (B : Nat) (I : List α → World → Prop) (Ix : Code → List α → World → Prop) (xs : List α) (W : World) : Exit → Act → World → Prop
  | .normal, _, W2 => KeepsFrom B W W2 ∧ I xs W2
  | .ret, _, W2 => KeepsFrom B W W2 ∧ Ix .ret xs W2
  | .exit id, _, W2 => KeepsFrom B W W2 ∧ Ix (.exit id) xs W2
  | _, _, _ => False
/-- The loop: an invariant of the caller's own, a walk of what binds an element, a walk of the body. -/
theorem rng_lawF {α : Type} {P : Program} {g : Operand} {ps : Array Tmp} {assign body : Code} {Q : Exit → Act → World → Prop} {a : Act} {w : World}
    {gf : Nat} {lb : Array Value} (hg : a.eval g = .func (.func gf) #[] lb) (eg : ∀ args w, (callFunc gf args).run P w = .ok (.enter gf args) w)
    {Enc : α → Array Value → World → Prop} {Ok : List α → α → Prop} {S : List α → Prop} {Fit : List α → World → Prop} {w0 : World} (hseq : IterF P gf lb Enc Ok S Fit w0) (hb0 : Below w0.heap.size w0 w)
    (hps : ∀ x args W, Enc x args W → args.size = ps.size)
    (I : List α → World → Prop) (Ix : Code → List α → World → Prop) (hI : ∀ pre, Calm w.heap.size (I pre)) (hIx : ∀ c pre, Calm w.heap.size (Ix c pre)) (h0 : I [] w) (hfit : ∀ pre W, I pre W → Fit pre W)
    (Ax : α → Act → World → Prop) (hAx : ∀ x a2, Calm w.heap.size (Ax x a2))
    (hassign : ∀ (l : Nat) (pre : List α) (x : α) (args : Array Value) (W : World) (K : Act → World → Prop), I pre W → Ok pre x → Enc x args W → (∀ a2 W2, Below W.heap.size W W2 → Ax x a2 W2 → K a2 W2) →
      assign.wpIn (Fence.wide.inRound l) 0 P (Exit.then K (fun _ _ _ => False)) { tmps := (ps.zip args).foldl (fun t (p, v) => t.setIfInBounds p v) a.tmps, defers := [] } W)
    (hbody : ∀ (l : Nat) (pre : List α) (x : α) (a2 : Act) (W : World), I pre W → Ok pre x → Ax x a2 W → body.wpIn (Fence.wide.inRound l) 0 P (rngPostF w.heap.size I Ix (pre ++ [x]) W) a2 W)
    (hdone : ∀ (D : Nat) (xs : List α) (W : World), w.heap.size ≤ D → S xs → I xs W → W.heap[D]? = some (.deferred (some [])) → Q .normal { a with defers := { target := .collected D, args := #[] } :: a.defers } W)
    (hstop : ∀ (D : Nat) (c : Code) (pre : List α) (W : World), w.heap.size ≤ D → Ix c pre W → W.heap[D]? = some (.deferred (some [])) → c.wpIn Fence.wide 2 P Q { a with defers := { target := .collected D, args := #[] } :: a.defers } W) :
    (Code.rangeFunc g ps assign body).wpIn Fence.wide 2 P Q a w := by
  refine wpIn_rangeFunc fun fn _ => ?_
  rw [Fence.wide_round]
  obtain ⟨rec, hrec⟩ : ∃ rec : LoopState → Option Code → Loop, rec = fun st pe => { state := st, pending := pe, fn, tmps := a.tmps, params := ps, assign, body, defers := w.heap.size } := ⟨_, rfl⟩
  obtain ⟨B, hB⟩ : ∃ B, B = w.heap.size := ⟨_, rfl⟩
  rw [← hB] at hrec hI hIx hAx hbody hdone hstop
  obtain ⟨W1, hW1⟩ : ∃ W1, W1 = (w.alloc (.deferred (some []))).alloc (.loop (rec .ready none)) := ⟨_, rfl⟩
  have hs1 : (w.alloc (.deferred (some []))).heap.size = B + 1 := by rw [World.size_alloc, hB]
  have hlow : Below w.heap.size w W1 := by rw [hW1]; exact ((Below.refl _ _).alloc (Nat.le_refl _) _).alloc (by rw [hs1, hB]; omega) _
  have hR1 : W1.heap[B + 1]? = some (.loop (rec .ready none)) := by rw [hW1, ← hs1]; exact World.alloc_heap_new _ _
  have hD1 : W1.heap[B]? = some (.deferred (some [])) := by
    rw [hW1]
    exact (Below.heap_alloc _ _ _ (by rw [hs1]; omega)).trans (by rw [hB]; exact World.alloc_heap_new w _)
  have hI1 : I [] W1 := hI _ _ _ h0 (Turn.of_below hlow)
  refine ⟨B + 1, [{ target := .collected B, args := #[] }], W1, { target := .fn (.func gf) lb, args := #[.func (.yield (B + 1)) #[] #[]] }, W1, gf, #[.func (.yield (B + 1)) #[] #[]] ++ lb, W1, ?_, ?_, fun _ _ => trivial, ?_, (fun h => nomatch h), ?_⟩
  · rw [hW1, hrec, hB]; exact run_enterLoop_outer _ _ _ _ _
  · simp only [resolve, hg]
    simp [go_sem]
  · simp [invoke, go_sem, eg]
  have lies : ∀ {W W2 : World} {k : Nat} {o : Obj}, Below W.heap.size W W2 → W.heap[k]? = some o → W2.heap[k]? = some o := fun hb hk => (hb.block _ (Array.getElem?_eq_some_iff.1 hk).1).trans hk
  refine (hseq (B + 1) (fun pre W => I pre W ∧ W.heap[B + 1]? = some (.loop (rec .ready none)) ∧ W.heap[B]? = some (.deferred (some [])))
    (fun pre W => ∃ c, Ix c pre W ∧ W.heap[B + 1]? = some (.loop (rec .done (some c))) ∧ W.heap[B]? = some (.deferred (some []))) W1 (hb0.trans (hlow.mono hb0.size))
    (fun s W W2 ⟨h1, h2, h3⟩ hb => ⟨hI _ _ _ h1 (Turn.of_below hb), lies hb h2, lies hb h3⟩)
    (fun s W W2 ⟨c, h1, h2, h3⟩ hb => ⟨c, hIx _ _ _ _ h1 (Turn.of_below hb), lies hb h2, lies hb h3⟩) (fun s W hj => hfit s W hj.1) ?_ ⟨hI1, hR1, hD1⟩).mono ?_
  · rintro pre x args W ⟨hi, hl, hk⟩ hok henc
    have hy := run_yield (P := P) (args := args) hl (by rw [hrec]; exact hps x args W henc)
    rw [hrec] at hy
    refine ⟨fn, _, assign, body, hy, roundIn_of_wpIn trivial (hassign _ pre x args W _ hi hok henc fun a2 W2 hb2 hax => ?_)⟩
    have hl2 := lies hb2 hl
    have hk2 := lies hb2 hk
    have hlt : B + 1 < W2.heap.size := (Array.getElem?_eq_some_iff.1 hl2).1
    refine ⟨_, run_beginRound hl2 (by rw [hrec]), ?_⟩
    obtain ⟨W3, hW3⟩ : ∃ W3, W3 = W2.putObj (B + 1) (.loop { rec .ready none with state := .busy }) := ⟨_, rfl⟩
    have hT3 : Turn B W2 W3 := by rw [hW3]; exact Turn.obj _ (by omega) hl2 rfl
    have hl3 : W3.heap[B + 1]? = some (.loop { rec .ready none with state := .busy }) := by rw [hW3]; exact World.putObj_heap_same hlt
    have hk3 : W3.heap[B]? = some (.deferred (some [])) := by rw [hW3]; exact (World.putObj_heap_other (by omega)).trans hk2
    rw [← hW3]
    refine wpIn_mono (hbody _ pre x a2 W3 (hI _ _ _ (hI _ _ _ hi (Turn.of_below hb2)) hT3) hok (hAx _ _ _ _ hax hT3)) ?_
    have fin : ∀ (jump : Option Code) (W4 : World), KeepsFrom B W3 W4 → ∃ W5, (Instr.endRound (B + 1) jump).run P W4 = .ok (.bool jump.isNone) W5 ∧ Turn B W4 W5 ∧ W5.heap[B + 1]? = some (.loop (rec (if jump.isNone then .ready else .done) jump)) ∧ W5.heap[B]? = some (.deferred (some [])) := fun jump W4 hk4 => by
      have hl4 := hk4.same _ _ (by omega) hl3 rfl
      have hlt4 := (Array.getElem?_eq_some_iff.1 hl4).1
      have hr := run_endRound (P := P) jump hl4
      rw [hrec] at hr ⊢
      exact ⟨_, hr, Turn.obj _ (by omega) hl4 rfl, World.putObj_heap_same hlt4, (World.putObj_heap_other (by omega)).trans (hk4.same _ _ (Nat.le_refl _) hk3 rfl)⟩
    rintro e a4 W4 hp
    cases e with
    | normal =>
      obtain ⟨hk4, hi4⟩ := hp
      obtain ⟨W5, hr, hT5, hl5, hk5⟩ := fin none W4 hk4
      exact ⟨_, W5, hr, .inl ⟨rfl, hI _ _ _ hi4 hT5, hl5, hk5⟩⟩
    | ret =>
      obtain ⟨hk4, hi4⟩ := hp
      obtain ⟨W5, hr, hT5, hl5, hk5⟩ := fin (some .ret) W4 hk4
      exact ⟨_, W5, hr, .inr ⟨rfl, .ret, hIx _ _ _ _ hi4 hT5, hl5, hk5⟩⟩
    | exit id =>
      obtain ⟨hk4, hi4⟩ := hp
      obtain ⟨W5, hr, hT5, hl5, hk5⟩ := fin (some (.exit id)) W4 hk4
      exact ⟨_, W5, hr, .inr ⟨rfl, .exit id, hIx _ _ _ _ hi4 hT5, hl5, hk5⟩⟩
    | goto t => exact hp.elim
    | panic ch => exact hp.elim
    | outgrown => exact hp.elim
  · have fin : ∀ (st : LoopState) (pe : Option Code) (W4 : World), st ≠ .busy → W4.heap[B + 1]? = some (.loop (rec st pe)) → W4.heap[B]? = some (.deferred (some [])) → ∃ W5, (Instr.endLoop (B + 1)).run P W4 = .ok pe W5 ∧ Turn B W4 W5 ∧ W5.heap[B]? = some (.deferred (some [])) := fun st pe W4 hst hl4 hk4 => by
      have hr := run_endLoop (P := P) hl4 (by rw [hrec]; exact hst)
      rw [hrec] at hr
      exact ⟨_, hr, Turn.obj _ (by omega) hl4 rfl, (World.putObj_heap_other (by omega)).trans hk4⟩
    rintro e W2 ⟨⟨v, rfl⟩, (⟨xs, hS, hi, hl, hk⟩ | ⟨pre, c, hi, hl, hk⟩)⟩
    · obtain ⟨W5, hr, hT5, hk5⟩ := fin _ _ W2 (by simp) hl hk
      exact ⟨none, W5, hr, hdone B xs W5 (Nat.le_refl _) hS (hI _ _ _ hi hT5) hk5⟩
    · obtain ⟨W5, hr, hT5, hk5⟩ := fin _ _ W2 (by simp) hl hk
      exact ⟨some c, W5, hr, hstop B c pre W5 (Nat.le_refl _) (hIx _ _ _ _ hi hT5) hk5⟩
end Go.Proofs.Ytkmacpmdgbhhkaa
