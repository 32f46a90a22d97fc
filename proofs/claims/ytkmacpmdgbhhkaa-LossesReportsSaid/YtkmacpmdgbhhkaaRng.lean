/- Plain words, for any program: a loop over an iterator that hands on what lies in memory, as one law; a round's regions walked as anywhere. No statement is proved here. -/
import Derived.Test.YtkmacpmdgbhhkaaElts
import Derived.RangeFuncBound
import Derived.RangeFuncNested
import Derived.RangeFuncLeaves
import Derived.OwnWalkIn
import Derived.LoopNIn
import Derived.LoopIn
namespace Go.Proofs.Ytkmacpmdgbhhkaa
open Go.RowKit
set_option linter.unusedVariables false

/-- From W to W2 cells, and all below block B, lie as they lay: book-keeping from B on alone may have turned; blocks may be new. -/
structure Turn (B : Nat) (W W2 : World) : Prop where
  os : W2.os = W.os
  tape : W2.tape = W.tape
  output : W2.output = W.output
  size : W.heap.size ≤ W2.heap.size
  low : ∀ k, k < B → k < W.heap.size → W2.heap[k]? = W.heap[k]?
  cells : ∀ (k : Nat) (o : Obj), W.heap[k]? = some o → o.isCells = true → W2.heap[k]? = some o
section
variable {B n : Nat} {W W2 W3 : World}
theorem Turn.of_below (h : Below W.heap.size W W2) : Turn B W W2 :=
  ⟨h.os, h.tape, h.output, h.size, fun k _ hk => h.block k hk, fun k o hk _ => (h.block k (Array.getElem?_eq_some_iff.1 hk).1).trans hk⟩
theorem Turn.refl (B : Nat) (W : World) : Turn B W W := .of_below (Below.refl _ _)
theorem Turn.trans (h : Turn B W W2) (k : Turn B W2 W3) : Turn B W W3 :=
  ⟨k.os.trans h.os, k.tape.trans h.tape, k.output.trans h.output, Nat.le_trans h.size k.size, fun i hi hs => (k.low i hi (Nat.lt_of_lt_of_le hs h.size)).trans (h.low i hi hs), fun i o hi ho => k.cells i o (h.cells i o hi ho) ho⟩
theorem Turn.obj {l : Nat} {o : Obj} (o2 : Obj) (hB : B ≤ l) (hl : W.heap[l]? = some o) (ho : o.isCells = false) : Turn B W (W.putObj l o2) :=
  ⟨rfl, rfl, rfl, by simp, fun k hk _ => World.putObj_heap_other (by omega), fun k o3 hk h3 => (World.putObj_heap_other (fun e => by
    subst e
    rw [hl] at hk
    cases hk
    rw [ho] at h3; cases h3)).trans hk⟩
theorem Turn.below (h : Turn B W W2) (hn : n ≤ B) (hs : n ≤ W.heap.size) : Below n W W2 := ⟨h.os, h.tape, h.output, h.size, fun k hk => h.low k (by omega) (by omega)⟩
theorem Turn.cell (h : Turn B W W2) {a : Addr} {v : Value} (hc : W.cell? a = some v) : W2.cell? a = some v := by
  obtain ⟨o, ho, hk⟩ := cells_of_cell hc
  exact (World.cell?_of_block ((h.cells _ _ ho hk).trans ho.symm)).trans hc
theorem BlkV.turn {g : Nat} {e : TypeId} {cs : List Value} (h : BlkV W g e cs) (hT : Turn B W W2) : BlkV W2 g e cs := hT.cells _ _ h rfl
theorem RdS.turn {A : Option Addr} {m c : Nat} {bs : List UInt8} (h : RdS W A m c bs) (hT : Turn B W W2) : RdS W2 A m c bs := by
  refine ⟨h.1, h.2.1, h.2.2.1, h.2.2.2.1, fun hn => ?_⟩
  obtain ⟨b, off, hA, hlt, hc⟩ := h.2.2.2.2 hn
  exact ⟨b, off, hA, Nat.lt_of_lt_of_le hlt hT.size, fun j hj => hT.cell (hc j hj)⟩
theorem own_turn {base s m : Nat} {e : TypeId} {v : Value} {xs : List Value} (h : W.ownsRow base e s v m xs) (hT : Turn B W W2) : W2.ownsRow base e s v m xs := by
  refine ⟨h.1, ?_⟩
  rcases h.2 with hn | ⟨g, cap, cur, rfl, hb, hgg, rest⟩
  · exact .inl hn
  · exact .inr ⟨g, cap, cur, rfl, hb, hT.cells _ _ hgg rfl, rest⟩
theorem BO.turn {w0 : World} {A : Option Addr} {m c : Nat} {bs : List UInt8} (h : BO w0 W A m c bs) (hT : Turn B W W2) (hB : w0.heap.size ≤ B) : BO w0 W2 A m c bs := ⟨own_turn h.1 hT, h.2.trans (hT.below hB h.2.size)⟩
end
/-- What is said of worlds abides book-keeping from B on. -/
def Calm (B : Nat) (I : World → Prop) : Prop := ∀ W W2, I W → Turn B W W2 → I W2
theorem Calm.and {B : Nat} {I J : World → Prop} (h : Calm B I) (k : Calm B J) : Calm B (fun W => I W ∧ J W) := fun W W2 hi hT => ⟨h W W2 hi.1 hT, k W W2 hi.2 hT⟩
/-- A fence that lets all in. -/
def Wide (F : Fence) : Prop := (∀ f, F.fn f) ∧ F.depth = none ∧ ∀ P, Machine.fenced P F = Machine.fenced P Fence.wide
theorem wide_wide : Wide Fence.wide := ⟨fun _ => trivial, rfl, fun _ => rfl⟩
theorem wide_in (l : Nat) : Wide (Fence.wide.inRound l) := ⟨fun _ => trivial, rfl, fun _ => rfl⟩
theorem Wide.calls {F : Fence} (h : Wide F) {n : Nat} {P : Program} {f : FuncId} {args : Array Value} {w : World} {R : Ending → World → Prop} (hc : Calls P f args w R) : CallsIn F n P f args w R :=
  ⟨h.1 f, fun cs _ => by rw [h.2.2]; exact ((callsIn_wide (n := n)).2 hc).2 cs (room_wide _)⟩
/-- An operation that defers nothing goes in such a fence, in a round or not, as anywhere. -/
theorem oper_round {F : Fence} (hF : Wide F) {P : Program} {n : Nat} {o : Oper} {a : Act} {w : World} {K K2 : Act → World → Prop} {Q : Exit → Act → World → Prop} (hd : ∀ c, o.op ≠ .defer c) (hK : ∀ a w, K a w → K2 a w) (h : o.wp P a w K Q) : o.wpIn F n P a w K2 Q := by
  refine ⟨fun f _ => hF.1 f, ?_⟩
  rw [Oper.semAt_plain F a.eval o hd]
  unfold Oper.wp at h
  generalize (execOp a.eval o).run P w = r at h ⊢
  have hdep : F.depth.isSome = true → 1 ≤ n := fun h => by rw [hF.2.1] at h; cases h
  cases r with
  | ok nx w2 =>
    cases nx with
    | value v => exact hK _ _ h
    | skip => exact hK _ _ h
    | defer d => exact hK _ _ h
    | enter f args =>
      refine ⟨hdep, hF.calls (Calls.mono h ?_)⟩
      intro e3 w3 h3
      cases e3 with
      | returned v => exact hK _ _ h3
      | panicked ch => exact h3
      | outgrown => exact h3
    | row r args => exact ⟨hdep, fun c cs _ => let ⟨v, w3, r3, s3⟩ := h c cs; ⟨v, w3, hK _ _ r3, by rw [hF.2.2]; exact stepsIn_wide.2 s3⟩⟩
    | _ => exact h.elim
  | halt hh w2 =>
    cases hh with
    | panic v => exact h
    | _ => exact h.elim
/-- One operation that defers nothing, by a plain law: behind it the walk goes on. -/
theorem in_wide {F : Fence} (hF : Wide F) {P : Program} {n : Nat} {ops : Array Oper} {rest : List Oper} {o : Oper} {Q : Exit → Act → World → Prop} {a : Act} {w : World} (hd : ∀ c, o.op ≠ .defer c)
    (h : wpList P ops (fun e a2 w2 => e = .normal ∧ wpListIn F n P ops Q rest a2 w2) [o] a w) : wpListIn F n P ops Q (o :: rest) a w := by
  unfold wpList at h
  unfold wpListIn
  by_cases hw : Region.wanted o (yielded ops a.tmps) = true
  · rw [if_pos hw] at h ⊢
    rcases h with h | h
    · have h2 := oper_round hF (n := n) (K2 := fun a2 w2 => wpListIn F n P ops Q rest a2 w2) hd (fun a2 w2 h => (show _ ∧ _ from h).2) h
      refine ⟨h2.1, ?_⟩
      have h3 := h2.2
      generalize (o.semAt F.round a.eval).run P w = r at h3 ⊢
      cases r with
      | ok nx w2 =>
        cases nx with
        | value v => exact h3
        | skip => exact h3
        | defer d => exact h3
        | enter f args =>
          refine ⟨h3.1, CallsIn.mono h3.2 ?_⟩
          intro e4 w4 h4
          cases e4 with
          | returned v => exact h4
          | panicked ch => cases h4.1
          | outgrown => obtain ⟨_, _, h5⟩ := h4; cases h5.1
        | row r args => exact h3
        | round l2 f t2 as2 b2 =>
          refine ⟨h3.1, RoundIn.mono h3.2 ?_⟩
          intro e4 w4 h4
          cases e4 with
          | returned v => exact h4
          | panicked ch => cases h4.1
          | outgrown => obtain ⟨_, _, h5⟩ := h4; cases h5.1
        | _ => exact h3
      | halt hh w2 =>
        cases hh with
        | panic v => cases (show _ ∧ _ from h3).1
        | _ => exact h3
    · obtain ⟨_, _, _, h3⟩ := h
      cases h3.1
  · rw [if_neg hw] at h ⊢
    exact ⟨fun f _ => hF.1 f, (show _ ∧ _ from h).2⟩
theorem keeps_own {W W2 : World} {base s m : Nat} {e : TypeId} {v : Value} {xs : List Value} (h : W.ownsRow base e s v m xs) (hg : W.grownBy W2 v.ownBlock) : KeepsOthers W W2 :=
  KeepsOthers.of_grownBy hg fun j o ej hj => by
    rcases h.2 with ⟨rfl, _⟩ | ⟨g, cap, cur, rfl, _, hgb, _⟩
    · simp [Value.ownBlock] at ej
    · obtain rfl : g = j := by simpa [Value.ownBlock] using ej
      rw [hgb] at hj; cases hj; rfl
theorem keeps_only {W W2 : World} {g : Nat} {e : TypeId} {cs : List Value} (hB : BlkV W g e cs) (ho : Only g W W2) : KeepsOthers W W2 :=
  KeepsOthers.of_grownBy ho.grown fun j o ej hj => by
    injection ej with ej
    subst ej
    rw [show W.heap[g]? = _ from hB] at hj
    cases hj; rfl
/-- An iterator's word: what it hands on one by one, each with what memory holds of it: S all of them, Ok which may be next. -/
def Iter {α : Type} (P : Program) (g : Nat) (lb : Array Value) (Enc : α → Array Value → World → Prop) (Ok : List α → α → Prop) (S : List α → Prop) (n0 : Nat) (w : World) : Prop :=
  ∀ (l : Nat) (J Jx : List α → World → Prop) (W : World), Below w.heap.size w W →
    (∀ s W W2, J s W → Below W.heap.size W W2 → J s W2) → (∀ s W W2, Jx s W → Below W.heap.size W W2 → Jx s W2) →
    (∀ pre x args W1, J pre W1 → Ok pre x → Enc x args W1 → YieldAt Fence.wide 0 P l args W1 fun e W2 =>
      (e = .returned (.bool true) ∧ J (pre ++ [x]) W2 ∧ Below n0 W1 W2) ∨ (e = .returned (.bool false) ∧ Jx (pre ++ [x]) W2)) →
    J [] W →
    CallsIn Fence.wide 1 P g (#[.func (.yield l) #[] #[]] ++ lb) W fun e W2 => (∃ v, e = .returned v) ∧ ((∃ xs, S xs ∧ J xs W2) ∨ (∃ pre, Jx pre W2))
/-- How a round's body may be left. -/
def rngPost {α : Type} (B n0 : Nat) (I : List α → World → Prop) (Ix : Code → List α → World → Prop) (xs : List α) (W : World) : Exit → Act → World → Prop
  | .normal, _, W2 => KeepsFrom B W W2 ∧ Below n0 W W2 ∧ I xs W2
  | .ret, _, W2 => KeepsFrom B W W2 ∧ Ix .ret xs W2
  | .exit id, _, W2 => KeepsFrom B W W2 ∧ Ix (.exit id) xs W2
  | _, _, _ => False
theorem rngPost_out {α : Type} {B n0 : Nat} {I : List α → World → Prop} {Ix : Code → List α → World → Prop} {xs : List α} {W : World} : ¬ LetsOut (rngPost B n0 I Ix xs W) := fun ⟨_, _, h⟩ => h
/-- The loop: an invariant of the caller's own, a walk of what binds an element, a walk of the body. -/
theorem rng_law {α : Type} {P : Program} {g : Operand} {ps : Array Tmp} {assign body : Code} {Q : Exit → Act → World → Prop} {a : Act} {w : World}
    {gf : Nat} {lb : Array Value} (hg : a.eval g = .func (.func gf) #[] lb) (eg : ∀ args w, (callFunc gf args).run P w = .ok (.enter gf args) w)
    {Enc : α → Array Value → World → Prop} {Ok : List α → α → Prop} {S : List α → Prop} {n0 : Nat} {w0 : World} (hseq : Iter P gf lb Enc Ok S n0 w0) (hb0 : Below w0.heap.size w0 w) (hn0 : n0 ≤ w.heap.size)
    (hps : ∀ x args W, Enc x args W → args.size = ps.size)
    (I : List α → World → Prop) (Ix : Code → List α → World → Prop) (hI : ∀ pre, Calm w.heap.size (I pre)) (hIx : ∀ c pre, Calm w.heap.size (Ix c pre)) (h0 : I [] w)
    (Ax : α → Act → World → Prop) (hAx : ∀ x a2, Calm w.heap.size (Ax x a2))
    (hassign : ∀ (l : Nat) (pre : List α) (x : α) (args : Array Value) (W : World) (K : Act → World → Prop), I pre W → Ok pre x → Enc x args W → (∀ a2 W2, Below W.heap.size W W2 → Ax x a2 W2 → K a2 W2) →
      assign.wpIn (Fence.wide.inRound l) 0 P (Exit.then K (fun _ _ _ => False)) { tmps := (ps.zip args).foldl (fun t (p, v) => t.setIfInBounds p v) a.tmps, defers := [] } W)
    (hbody : ∀ (l : Nat) (pre : List α) (x : α) (a2 : Act) (W : World), I pre W → Ok pre x → Ax x a2 W → body.wpIn (Fence.wide.inRound l) 0 P (rngPost w.heap.size n0 I Ix (pre ++ [x]) W) a2 W)
    (hdone : ∀ (D : Nat) (xs : List α) (W : World), w.heap.size ≤ D → S xs → I xs W → W.heap[D]? = some (.deferred (some [])) → Q .normal { a with defers := { target := .collected D, args := #[] } :: a.defers } W)
    (hstop : ∀ (D : Nat) (c : Code) (pre : List α) (W : World), w.heap.size ≤ D → Ix c pre W → W.heap[D]? = some (.deferred (some [])) → c.wpIn Fence.wide 2 P Q { a with defers := { target := .collected D, args := #[] } :: a.defers } W) :
    (Code.rangeFunc g ps assign body).wpIn Fence.wide 2 P Q a w := by
  refine wpIn_rangeFunc fun fn _ => ?_
  rw [Fence.wide_round]
  obtain ⟨rec, hrec⟩ : ∃ rec : LoopState → Option Code → Loop, rec = fun st pe => { state := st, pending := pe, fn, tmps := a.tmps, params := ps, assign, body, defers := w.heap.size } := ⟨_, rfl⟩
  obtain ⟨B, hB⟩ : ∃ B, B = w.heap.size := ⟨_, rfl⟩
  rw [← hB] at hrec hI hIx hAx hbody hdone hstop hn0
  obtain ⟨W1, hW1⟩ : ∃ W1, W1 = (w.alloc (.deferred (some []))).alloc (.loop (rec .ready none)) := ⟨_, rfl⟩
  have hs1 : (w.alloc (.deferred (some []))).heap.size = B + 1 := by rw [World.size_alloc, hB]
  have hlow : Below w.heap.size w W1 := by rw [hW1]; exact ((Below.refl _ _).alloc (Nat.le_refl _) _).alloc (by rw [hs1, hB]; omega) _
  have hR1 : W1.heap[B + 1]? = some (.loop (rec .ready none)) := by rw [hW1, ← hs1]; exact World.alloc_heap_new _ _
  have hD1 : W1.heap[B]? = some (.deferred (some [])) := by
    rw [hW1]
    exact (Below.heap_alloc _ _ _ (by rw [hs1]; omega)).trans (by rw [hB]; exact World.alloc_heap_new w _)
  have hI1 : I [] W1 := hI _ _ _ h0 (Turn.of_below hlow)
  refine ⟨B + 1, [{ target := .collected B, args := #[] }], W1, { target := .fn (.func gf) lb, args := #[.func (.yield (B + 1)) #[] #[]] }, W1, gf, #[.func (.yield (B + 1)) #[] #[]] ++ lb, W1, ?_, ?_, fun _ _ => trivial, ?_, (fun h => nomatch h), ?_⟩
  · rw [hW1, hrec, hB]; exact run_enterLoop_outer _ _ _ _ _
  · simp only [resolve, hg]
    simp [go_sem]
  · simp [invoke, go_sem, eg]
  have lies : ∀ {W W2 : World} {k : Nat} {o : Obj}, Below W.heap.size W W2 → W.heap[k]? = some o → W2.heap[k]? = some o := fun hb hk => (hb.block _ (Array.getElem?_eq_some_iff.1 hk).1).trans hk
  refine (hseq (B + 1) (fun pre W => I pre W ∧ W.heap[B + 1]? = some (.loop (rec .ready none)) ∧ W.heap[B]? = some (.deferred (some [])))
    (fun pre W => ∃ c, Ix c pre W ∧ W.heap[B + 1]? = some (.loop (rec .done (some c))) ∧ W.heap[B]? = some (.deferred (some []))) W1 (hb0.trans (hlow.mono hb0.size))
    (fun s W W2 ⟨h1, h2, h3⟩ hb => ⟨hI _ _ _ h1 (Turn.of_below hb), lies hb h2, lies hb h3⟩)
    (fun s W W2 ⟨c, h1, h2, h3⟩ hb => ⟨c, hIx _ _ _ _ h1 (Turn.of_below hb), lies hb h2, lies hb h3⟩) ?_ ⟨hI1, hR1, hD1⟩).mono ?_
  · rintro pre x args W ⟨hi, hl, hk⟩ hok henc
    have hy := run_yield (P := P) (args := args) hl (by rw [hrec]; exact hps x args W henc)
    rw [hrec] at hy
    refine ⟨fn, _, assign, body, hy, roundIn_of_wpIn trivial (hassign _ pre x args W _ hi hok henc fun a2 W2 hb2 hax => ?_)⟩
    have hl2 := lies hb2 hl
    have hk2 := lies hb2 hk
    have hlt : B + 1 < W2.heap.size := (Array.getElem?_eq_some_iff.1 hl2).1
    refine ⟨_, run_beginRound hl2 (by rw [hrec]), ?_⟩
    obtain ⟨W3, hW3⟩ : ∃ W3, W3 = W2.putObj (B + 1) (.loop { rec .ready none with state := .busy }) := ⟨_, rfl⟩
    have hT3 : Turn B W2 W3 := by rw [hW3]; exact Turn.obj _ (by omega) hl2 rfl
    have hl3 : W3.heap[B + 1]? = some (.loop { rec .ready none with state := .busy }) := by rw [hW3]; exact World.putObj_heap_same hlt
    have hk3 : W3.heap[B]? = some (.deferred (some [])) := by rw [hW3]; exact (World.putObj_heap_other (by omega)).trans hk2
    have hn3 : Below n0 W W3 := (hb2.mono (by have := (Array.getElem?_eq_some_iff.1 hk).1; omega)).trans (hT3.below hn0 (by omega))
    rw [← hW3]
    refine wpIn_mono (hbody _ pre x a2 W3 (hI _ _ _ (hI _ _ _ hi (Turn.of_below hb2)) hT3) hok (hAx _ _ _ _ hax hT3)) ?_
    have fin : ∀ (jump : Option Code) (W4 : World), KeepsFrom B W3 W4 → ∃ W5, (Instr.endRound (B + 1) jump).run P W4 = .ok (.bool jump.isNone) W5 ∧ Turn B W4 W5 ∧ W5.heap[B + 1]? = some (.loop (rec (if jump.isNone then .ready else .done) jump)) ∧ W5.heap[B]? = some (.deferred (some [])) := fun jump W4 hk4 => by
      have hl4 := hk4.same _ _ (by omega) hl3 rfl
      have hlt4 := (Array.getElem?_eq_some_iff.1 hl4).1
      have hr := run_endRound (P := P) jump hl4
      rw [hrec] at hr ⊢
      exact ⟨_, hr, Turn.obj _ (by omega) hl4 rfl, World.putObj_heap_same hlt4, (World.putObj_heap_other (by omega)).trans (hk4.same _ _ (Nat.le_refl _) hk3 rfl)⟩
    rintro e a4 W4 hp
    cases e with
    | normal =>
      obtain ⟨hk4, hn4, hi4⟩ := hp
      obtain ⟨W5, hr, hT5, hl5, hk5⟩ := fin none W4 hk4
      exact ⟨_, W5, hr, .inl ⟨rfl, ⟨hI _ _ _ hi4 hT5, hl5, hk5⟩, (hn3.trans hn4).trans (hT5.below hn0 (by have := hk4.size; have := (Array.getElem?_eq_some_iff.1 hk3).1; omega))⟩⟩
    | ret =>
      obtain ⟨hk4, hi4⟩ := hp
      obtain ⟨W5, hr, hT5, hl5, hk5⟩ := fin (some .ret) W4 hk4
      exact ⟨_, W5, hr, .inr ⟨rfl, .ret, hIx _ _ _ _ hi4 hT5, hl5, hk5⟩⟩
    | exit id =>
      obtain ⟨hk4, hi4⟩ := hp
      obtain ⟨W5, hr, hT5, hl5, hk5⟩ := fin (some (.exit id)) W4 hk4
      exact ⟨_, W5, hr, .inr ⟨rfl, .exit id, hIx _ _ _ _ hi4 hT5, hl5, hk5⟩⟩
    | goto t => exact hp.elim
    | panic ch => exact hp.elim
    | outgrown => exact hp.elim
  · have fin : ∀ (st : LoopState) (pe : Option Code) (W4 : World), st ≠ .busy → W4.heap[B + 1]? = some (.loop (rec st pe)) → W4.heap[B]? = some (.deferred (some [])) → ∃ W5, (Instr.endLoop (B + 1)).run P W4 = .ok pe W5 ∧ Turn B W4 W5 ∧ W5.heap[B]? = some (.deferred (some [])) := fun st pe W4 hst hl4 hk4 => by
      have hr := run_endLoop (P := P) hl4 (by rw [hrec]; exact hst)
      rw [hrec] at hr
      exact ⟨_, hr, Turn.obj _ (by omega) hl4 rfl, (World.putObj_heap_other (by omega)).trans hk4⟩
    rintro e W2 ⟨⟨v, rfl⟩, (⟨xs, hS, hi, hl, hk⟩ | ⟨pre, c, hi, hl, hk⟩)⟩
    · obtain ⟨W5, hr, hT5, hk5⟩ := fin _ _ W2 (by simp) hl hk
      exact ⟨none, W5, hr, hdone B xs W5 (Nat.le_refl _) hS (hI _ _ _ hi hT5) hk5⟩
    · obtain ⟨W5, hr, hT5, hk5⟩ := fin _ _ W2 (by simp) hl hk
      exact ⟨some c, W5, hr, hstop B c pre W5 (Nat.le_refl _) (hIx _ _ _ _ hi hT5) hk5⟩
end Go.Proofs.Ytkmacpmdgbhhkaa
