/- Contracts of package rtcp: what a packet has that its kind hasn't; may it be? No statement is proved here. -/
import Derived.Test.YtacaempcbdekaaaDoorZRtcp20
import Derived.Test.YtacaempcbdekaaaDoorZRtcp22
namespace Go.Proofs.YtacaempcbdekaaaDoor
open Go.RowKit
set_option linter.unusedVariables false

def knownK (k : Int) : Prop := k = 200 ∨ k = 201 ∨ k = 202 ∨ k = 203 ∨ k = 1 ∨ k = 2 ∨ k = 3 ∨ k = 4
def besC (c : Ctl) : Ctl :=
  if c.k = 200 then { c with so := 0, ti := 0, st := 0, pa := 0, oc := 0, reps := [] } else
  if c.k = 201 then { c with so := 0, reps := [] } else
  if c.k = 202 then { c with nams := [] } else
  if c.k = 203 then { c with srcs := [] } else
  if c.k = 1 then { c with so := 0, me := 0, loss := [] } else
  if c.k = 2 then { c with so := 0, me := 0 } else
  if c.k = 3 then { c with so := 0, firs := [] } else
  if c.k = 4 then { c with so := 0, srcs := [], ra := 0 } else
  ⟨0, 0, 0, 0, 0, 0, 0, [], [], [], [], [], 0⟩
theorem RdG.none_ {α : Type} (f : α → List Value) (sz : Nat) (w : World) : RdG sz w none (([] : List α).map f) := ⟨by simp, by simp⟩

def BesTold (c0 : Ctl) (kn : Bool) (w : World) (r : Ending) (w' : World) : Prop := ∃ (k so me ti st pa oc ra : Int) (A B C D E : Option Addr) (n1 n2 n3 n4 n5 a b c d e : Nat),
  r = .returned (.tuple #[.agg #[.int .i64 k, .int .u32 so, .int .u32 me, .int .u64 ti, .int .u32 st, .int .u32 pa, .int .u32 oc, .slice A n1 a, .slice B n2 b, .slice C n3 c, .slice D n4 d, .slice E n5 e, .int .u64 ra], .bool kn]) ∧ CtRd w' [.int .i64 k, .int .u32 so, .int .u32 me, .int .u64 ti, .int .u32 st, .int .u32 pa, .int .u32 oc, .slice A n1 a, .slice B n2 b, .slice C n3 c, .slice D n4 d, .slice E n5 e, .int .u64 ra] (besC c0) ∧ Below w.heap.size w w'

theorem besides_any (cs : List Value) (c0 : Ctl) (w : World) (h : CtRd w cs c0) (kn : Bool) (hkn : kn = true ↔ knownK c0.k) :
    Calls Tryd.prog 28 #[.agg cs.toArray] w (BesTold c0 kn w) := by
  obtain ⟨A, a, B, b, C, c, D, d, E, e, h0, h1, h2, h3, h4, h5⟩ := h
  subst h0
  obtain ⟨k, so, me, ti, st, pa, oc, reps, nams, srcs, loss, firs, ra⟩ := c0
  simp only at hkn h1 h2 h3 h4 h5
  by_cases hk : knownK k
  · obtain rfl : kn = true := hkn.2 hk
    rcases hk with rfl | rfl | rfl | rfl | rfl | rfl | rfl | rfl
    · refine (besides_200 so me ti st pa oc ra A B C D E reps.length nams.length srcs.length loss.length firs.length a b c d e w).mono ?_
      rintro r w' ⟨rfl, hb⟩
      have hbe : besC ⟨200, so, me, ti, st, pa, oc, reps, nams, srcs, loss, firs, ra⟩ = ⟨200, 0, me, 0, 0, 0, 0, [], nams, srcs, loss, firs, ra⟩ := by simp [besC]
      refine ⟨(200), 0, (me : Int), 0, 0, 0, 0, (ra : Int), none, B, C, D, E, 0, nams.length, srcs.length, loss.length, firs.length, 0, b, c, d, e, rfl, ?_, hb⟩
      rw [hbe]
      exact ⟨none, 0, B, b, C, c, D, d, E, e, rfl, RdG.none_ cRep 7 _, h2.below hb, h3.below hb, h4.below hb, h5.below hb⟩
    · refine (besides_201 so me ti st pa oc ra A B C D E reps.length nams.length srcs.length loss.length firs.length a b c d e w).mono ?_
      rintro r w' ⟨rfl, hb⟩
      have hbe : besC ⟨201, so, me, ti, st, pa, oc, reps, nams, srcs, loss, firs, ra⟩ = ⟨201, 0, me, ti, st, pa, oc, [], nams, srcs, loss, firs, ra⟩ := by simp [besC]
      refine ⟨(201), 0, (me : Int), (ti : Int), (st : Int), (pa : Int), (oc : Int), (ra : Int), none, B, C, D, E, 0, nams.length, srcs.length, loss.length, firs.length, 0, b, c, d, e, rfl, ?_, hb⟩
      rw [hbe]
      exact ⟨none, 0, B, b, C, c, D, d, E, e, rfl, RdG.none_ cRep 7 _, h2.below hb, h3.below hb, h4.below hb, h5.below hb⟩
    · refine (besides_202 so me ti st pa oc ra A B C D E reps.length nams.length srcs.length loss.length firs.length a b c d e w).mono ?_
      rintro r w' ⟨rfl, hb⟩
      have hbe : besC ⟨202, so, me, ti, st, pa, oc, reps, nams, srcs, loss, firs, ra⟩ = ⟨202, so, me, ti, st, pa, oc, reps, [], srcs, loss, firs, ra⟩ := by simp [besC]
      refine ⟨(202), (so : Int), (me : Int), (ti : Int), (st : Int), (pa : Int), (oc : Int), (ra : Int), A, none, C, D, E, reps.length, 0, srcs.length, loss.length, firs.length, a, 0, c, d, e, rfl, ?_, hb⟩
      rw [hbe]
      exact ⟨A, a, none, 0, C, c, D, d, E, e, rfl, h1.below hb, RdG.none_ cNam 2 _, h3.below hb, h4.below hb, h5.below hb⟩
    · refine (besides_203 so me ti st pa oc ra A B C D E reps.length nams.length srcs.length loss.length firs.length a b c d e w).mono ?_
      rintro r w' ⟨rfl, hb⟩
      have hbe : besC ⟨203, so, me, ti, st, pa, oc, reps, nams, srcs, loss, firs, ra⟩ = ⟨203, so, me, ti, st, pa, oc, reps, nams, [], loss, firs, ra⟩ := by simp [besC]
      refine ⟨(203), (so : Int), (me : Int), (ti : Int), (st : Int), (pa : Int), (oc : Int), (ra : Int), A, B, none, D, E, reps.length, nams.length, 0, loss.length, firs.length, a, b, 0, d, e, rfl, ?_, hb⟩
      rw [hbe]
      exact ⟨A, a, B, b, none, 0, D, d, E, e, rfl, h1.below hb, h2.below hb, RdG.none_ cSrc 1 _, h4.below hb, h5.below hb⟩
    · refine (besides_1 so me ti st pa oc ra A B C D E reps.length nams.length srcs.length loss.length firs.length a b c d e w).mono ?_
      rintro r w' ⟨rfl, hb⟩
      have hbe : besC ⟨1, so, me, ti, st, pa, oc, reps, nams, srcs, loss, firs, ra⟩ = ⟨1, 0, 0, ti, st, pa, oc, reps, nams, srcs, [], firs, ra⟩ := by simp [besC]
      refine ⟨(1), 0, 0, (ti : Int), (st : Int), (pa : Int), (oc : Int), (ra : Int), A, B, C, none, E, reps.length, nams.length, srcs.length, 0, firs.length, a, b, c, 0, e, rfl, ?_, hb⟩
      rw [hbe]
      exact ⟨A, a, B, b, C, c, none, 0, E, e, rfl, h1.below hb, h2.below hb, h3.below hb, RdG.none_ cLos 2 _, h5.below hb⟩
    · refine (besides_2 so me ti st pa oc ra A B C D E reps.length nams.length srcs.length loss.length firs.length a b c d e w).mono ?_
      rintro r w' ⟨rfl, hb⟩
      have hbe : besC ⟨2, so, me, ti, st, pa, oc, reps, nams, srcs, loss, firs, ra⟩ = ⟨2, 0, 0, ti, st, pa, oc, reps, nams, srcs, loss, firs, ra⟩ := by simp [besC]
      refine ⟨(2), 0, 0, (ti : Int), (st : Int), (pa : Int), (oc : Int), (ra : Int), A, B, C, D, E, reps.length, nams.length, srcs.length, loss.length, firs.length, a, b, c, d, e, rfl, ?_, hb⟩
      rw [hbe]
      exact ⟨A, a, B, b, C, c, D, d, E, e, rfl, h1.below hb, h2.below hb, h3.below hb, h4.below hb, h5.below hb⟩
    · refine (besides_3 so me ti st pa oc ra A B C D E reps.length nams.length srcs.length loss.length firs.length a b c d e w).mono ?_
      rintro r w' ⟨rfl, hb⟩
      have hbe : besC ⟨3, so, me, ti, st, pa, oc, reps, nams, srcs, loss, firs, ra⟩ = ⟨3, 0, me, ti, st, pa, oc, reps, nams, srcs, loss, [], ra⟩ := by simp [besC]
      refine ⟨(3), 0, (me : Int), (ti : Int), (st : Int), (pa : Int), (oc : Int), (ra : Int), A, B, C, D, none, reps.length, nams.length, srcs.length, loss.length, 0, a, b, c, d, 0, rfl, ?_, hb⟩
      rw [hbe]
      exact ⟨A, a, B, b, C, c, D, d, none, 0, rfl, h1.below hb, h2.below hb, h3.below hb, h4.below hb, RdG.none_ cFir 2 _⟩
    · refine (besides_4 so me ti st pa oc ra A B C D E reps.length nams.length srcs.length loss.length firs.length a b c d e w).mono ?_
      rintro r w' ⟨rfl, hb⟩
      have hbe : besC ⟨4, so, me, ti, st, pa, oc, reps, nams, srcs, loss, firs, ra⟩ = ⟨4, 0, me, ti, st, pa, oc, reps, nams, [], loss, firs, 0⟩ := by simp [besC]
      refine ⟨(4), 0, (me : Int), (ti : Int), (st : Int), (pa : Int), (oc : Int), 0, A, B, none, D, E, reps.length, nams.length, 0, loss.length, firs.length, a, b, 0, d, e, rfl, ?_, hb⟩
      rw [hbe]
      exact ⟨A, a, B, b, none, 0, D, d, E, e, rfl, h1.below hb, h2.below hb, RdG.none_ cSrc 1 _, h4.below hb, h5.below hb⟩
  · obtain rfl : kn = false := by
      cases kn with
      | false => rfl
      | true => exact absurd (hkn.1 rfl) hk
    have hk' := hk
    unfold knownK at hk'
    have q : ¬ k = 200 ∧ ¬ k = 201 ∧ ¬ k = 202 ∧ ¬ k = 203 ∧ ¬ k = 1 ∧ ¬ k = 2 ∧ ¬ k = 3 ∧ ¬ k = 4 := by omega
    obtain ⟨q1, q2, q3, q4, q5, q6, q7, q8⟩ := q
    refine (besides_none k q1 q2 q3 q4 q5 q6 q7 q8 so me ti st pa oc ra A B C D E reps.length nams.length srcs.length loss.length firs.length a b c d e w).mono ?_
    rintro r w' ⟨rfl, hb⟩
    have hbe : besC ⟨k, so, me, ti, st, pa, oc, reps, nams, srcs, loss, firs, ra⟩ = ⟨0, 0, 0, 0, 0, 0, 0, [], [], [], [], [], 0⟩ := by simp [besC, q1, q2, q3, q4, q5, q6, q7, q8]
    refine ⟨0, 0, 0, 0, 0, 0, 0, 0, none, none, none, none, none, 0, 0, 0, 0, 0, 0, 0, 0, 0, 0, rfl, ?_, hb⟩
    rw [hbe]
    exact ⟨none, 0, none, 0, none, 0, none, 0, none, 0, rfl, RdG.none_ cRep 7 _, RdG.none_ cNam 2 _, RdG.none_ cSrc 1 _, RdG.none_ cLos 2 _, RdG.none_ cFir 2 _⟩

theorem wpList_ldC {P : Program} {w : World} {ops : Array Oper} {rest : List Oper} {op : Oper} {a : Act} {Q : Exit → Act → World → Prop} (hw : Region.wanted op (yielded ops a.tmps) = true) (ty : TypeId) (x : Operand) (ho : op.op = .load ty x) (b o : Nat) (hx : a.eval x = .pointer (some ⟨b, o, none⟩)) (cs : List Value) (hc : w.rangeAt b o cs) (hT : RowTy P ty cs.length)
    (h : wpList P ops Q rest (a.put op.dst (.agg cs.toArray)) w) : wpList P ops Q (op :: rest) a w := by
  obtain ⟨d, h1, h2, h3⟩ := hT
  exact wpList_step fun K hK => by rw [if_pos hw]; exact wp_load_mid ty x ho b o hx cs d hc h1 h2 h3 (hK _ _ h)

def rateP (x : Nat) : Prop := x < 9223372036854775808 ∧ rM x * 2 ^ rE x = x
def mayK (c : Ctl) : Prop := knownK c.k ∧ blankC (besC c) ∧ listsC c ∧ rateP c.ra
theorem besC_fit {c : Ctl} (h : c.fit) : (besC c).fit := by
  obtain ⟨k, so, me, ti, st, pa, oc, reps, nams, srcs, loss, firs, ra⟩ := c
  obtain ⟨f0, f1, f2, f3, f4, f5, f6, f7, f8, f9, fa, fb, fc⟩ := h
  simp only at f0 f1 f2 f3 f4 f5 f6 f7 f8 f9 fa fb fc
  unfold besC
  simp only
  by_cases q200 : k = 200
  · rw [if_pos q200]; exact ⟨f0, (by simp), f2, (by simp), (by simp), (by simp), (by simp), (by simp), f8, f9, fa, fb, fc⟩
  rw [if_neg q200]
  by_cases q201 : k = 201
  · rw [if_pos q201]; exact ⟨f0, (by simp), f2, f3, f4, f5, f6, (by simp), f8, f9, fa, fb, fc⟩
  rw [if_neg q201]
  by_cases q202 : k = 202
  · rw [if_pos q202]; exact ⟨f0, f1, f2, f3, f4, f5, f6, f7, (by simp), f9, fa, fb, fc⟩
  rw [if_neg q202]
  by_cases q203 : k = 203
  · rw [if_pos q203]; exact ⟨f0, f1, f2, f3, f4, f5, f6, f7, f8, (by simp), fa, fb, fc⟩
  rw [if_neg q203]
  by_cases q1 : k = 1
  · rw [if_pos q1]; exact ⟨f0, (by simp), (by simp), f3, f4, f5, f6, f7, f8, f9, (by simp), fb, fc⟩
  rw [if_neg q1]
  by_cases q2 : k = 2
  · rw [if_pos q2]; exact ⟨f0, (by simp), (by simp), f3, f4, f5, f6, f7, f8, f9, fa, fb, fc⟩
  rw [if_neg q2]
  by_cases q3 : k = 3
  · rw [if_pos q3]; exact ⟨f0, (by simp), f2, f3, f4, f5, f6, f7, f8, f9, fa, (by simp), fc⟩
  rw [if_neg q3]
  by_cases q4 : k = 4
  · rw [if_pos q4]; exact ⟨f0, (by simp), f2, f3, f4, f5, f6, f7, f8, (by simp), fa, fb, (by simp)⟩
  rw [if_neg q4]
  exact ⟨(by simp), (by simp), (by simp), (by simp), (by simp), (by simp), (by simp), (by simp), (by simp), (by simp), (by simp), (by simp), (by simp)⟩

set_option maxRecDepth 100000 in
set_option maxHeartbeats 1000000 in
theorem mayBe_any (cs : List Value) (c0 : Ctl) (w : World) (h : CtRd w cs c0) (hf : c0.fit) (bb : Bool) (hbb : bb = true ↔ mayK c0) :
    Calls Tryd.prog 18 #[.agg cs.toArray] w fun r w' => r = .returned (.bool bb) ∧ Below w.heap.size w w' := by
  obtain ⟨hB0, hC0, b0⟩ := box_facts w cs c0 h
  have C0 := Lib.hid hC0
  obtain ⟨A, a, B, b, C, c, D, d, E, e, h0, -⟩ := h
  subst h0
  have HBE : Hid (∀ W kn, CtRd W [.int .i64 c0.k, .int .u32 (c0.so : Int), .int .u32 (c0.me : Int), .int .u64 (c0.ti : Int), .int .u32 (c0.st : Int), .int .u32 (c0.pa : Int), .int .u32 (c0.oc : Int), .slice A c0.reps.length a, .slice B c0.nams.length b, .slice C c0.srcs.length c, .slice D c0.loss.length d, .slice E c0.firs.length e, .int .u64 (c0.ra : Int)] c0 → (kn = true ↔ knownK c0.k) → Calls Tryd.prog 28 #[.agg #[.int .i64 c0.k, .int .u32 (c0.so : Int), .int .u32 (c0.me : Int), .int .u64 (c0.ti : Int), .int .u32 (c0.st : Int), .int .u32 (c0.pa : Int), .int .u32 (c0.oc : Int), .slice A c0.reps.length a, .slice B c0.nams.length b, .slice C c0.srcs.length c, .slice D c0.loss.length d, .slice E c0.firs.length e, .int .u64 (c0.ra : Int)]] W (BesTold c0 kn W)) := Lib.hid fun W kn hW hk => besides_any _ c0 W hW kn hk
  have HLI : Hid (∀ W, CtRd W [.int .i64 c0.k, .int .u32 (c0.so : Int), .int .u32 (c0.me : Int), .int .u64 (c0.ti : Int), .int .u32 (c0.st : Int), .int .u32 (c0.pa : Int), .int .u32 (c0.oc : Int), .slice A c0.reps.length a, .slice B c0.nams.length b, .slice C c0.srcs.length c, .slice D c0.loss.length d, .slice E c0.firs.length e, .int .u64 (c0.ra : Int)] c0 → Calls Tryd.prog 30 #[.agg #[.int .i64 c0.k, .int .u32 (c0.so : Int), .int .u32 (c0.me : Int), .int .u64 (c0.ti : Int), .int .u32 (c0.st : Int), .int .u32 (c0.pa : Int), .int .u32 (c0.oc : Int), .slice A c0.reps.length a, .slice B c0.nams.length b, .slice C c0.srcs.length c, .slice D c0.loss.length d, .slice E c0.firs.length e, .int .u64 (c0.ra : Int)]] W fun r w' => ListsTold c0 r ∧ Below W.heap.size W w') := Lib.hid fun W hW => listsMayBe_any _ c0 W hW
  have HRA : Hid (∀ W x, (x = true ↔ rateP c0.ra) → Calls Tryd.prog 31 #[.int .u64 (c0.ra : Int)] W fun r w' => r = .returned (.bool x) ∧ W = w') := Lib.hid fun W x hx => rateMayBe_any c0.ra W (by obtain ⟨f0, f1, f2, f3, f4, f5, f6, f7, f8, f9, fa, fb, fc⟩ := hf; exact fc) x hx
  have HBL : Hid (∀ W cs' x, CtRd W cs' (besC c0) → (x = true ↔ blankC (besC c0)) → Calls Tryd.prog 29 #[.agg cs'.toArray] W fun r w' => r = .returned (.bool x) ∧ Below W.heap.size W w') := Lib.hid fun W cs' x h1 h2 => isBlank_any cs' _ W h1 (besC_fit hf) x h2
  unfold ctlC at C0 hB0 b0 ⊢
  have V0 := Lib.hid hB0
  have B0 := Lib.hid b0
  clear hB0 b0 hC0 hf
  have hbx : (¬ knownK c0.k ∧ bb = false) ∨ (knownK c0.k ∧ ¬ blankC (besC c0) ∧ bb = false) ∨ (knownK c0.k ∧ blankC (besC c0) ∧ ¬ listsC c0 ∧ bb = false) ∨ (knownK c0.k ∧ blankC (besC c0) ∧ listsC c0 ∧ (bb = true ↔ rateP c0.ra)) := by
    unfold mayK at hbb
    by_cases p1 : knownK c0.k
    · by_cases p2 : blankC (besC c0)
      · by_cases p3 : listsC c0
        · exact Or.inr (Or.inr (Or.inr ⟨p1, p2, p3, by rw [hbb]; simp [p1, p2, p3]⟩))
        · exact Or.inr (Or.inr (Or.inl ⟨p1, p2, p3, by cases bb <;> simp_all⟩))
      · exact Or.inr (Or.inl ⟨p1, p2, by cases bb <;> simp_all⟩)
    · exact Or.inl ⟨p1, by cases bb <;> simp_all⟩
  clear hbb
  have START : Hid (∀ w1, Below (w.alloc (.cells #[.int .i64 c0.k, .int .u32 (c0.so : Int), .int .u32 (c0.me : Int), .int .u64 (c0.ti : Int), .int .u32 (c0.st : Int), .int .u32 (c0.pa : Int), .int .u32 (c0.oc : Int), .slice A c0.reps.length a, .slice B c0.nams.length b, .slice C c0.srcs.length c, .slice D c0.loss.length d, .slice E c0.firs.length e, .int .u64 (c0.ra : Int)] 50)).heap.size (w.alloc (.cells #[.int .i64 c0.k, .int .u32 (c0.so : Int), .int .u32 (c0.me : Int), .int .u64 (c0.ti : Int), .int .u32 (c0.st : Int), .int .u32 (c0.pa : Int), .int .u32 (c0.oc : Int), .slice A c0.reps.length a, .slice B c0.nams.length b, .slice C c0.srcs.length c, .slice D c0.loss.length d, .slice E c0.firs.length e, .int .u64 (c0.ra : Int)] 50)) w1 → BlkV w1 w.heap.size 50 [.int .i64 c0.k, .int .u32 (c0.so : Int), .int .u32 (c0.me : Int), .int .u64 (c0.ti : Int), .int .u32 (c0.st : Int), .int .u32 (c0.pa : Int), .int .u32 (c0.oc : Int), .slice A c0.reps.length a, .slice B c0.nams.length b, .slice C c0.srcs.length c, .slice D c0.loss.length d, .slice E c0.firs.length e, .int .u64 (c0.ra : Int)] ∧ Below w.heap.size w w1 ∧ CtRd w1 [.int .i64 c0.k, .int .u32 (c0.so : Int), .int .u32 (c0.me : Int), .int .u64 (c0.ti : Int), .int .u32 (c0.st : Int), .int .u32 (c0.pa : Int), .int .u32 (c0.oc : Int), .slice A c0.reps.length a, .slice B c0.nams.length b, .slice C c0.srcs.length c, .slice D c0.loss.length d, .slice E c0.firs.length e, .int .u64 (c0.ra : Int)] c0) := Lib.hid fun w1 hb => ⟨V0.out.below hb V0.out.lt, B0.out.trans (hb.mono B0.out.size), C0.out.below hb⟩
  obtain ⟨K0, hK0⟩ : ∃ K0 : Prop, K0 = knownK c0.k := ⟨_, rfl⟩
  obtain ⟨P0, hP0⟩ : ∃ P0 : Prop, P0 = blankC (besC c0) := ⟨_, rfl⟩
  obtain ⟨L0, hL0⟩ : ∃ L0 : Prop, L0 = listsC c0 := ⟨_, rfl⟩
  rw [← hK0, ← hP0, ← hL0] at hbx
  rw [← hK0] at HBE
  rw [← hP0] at HBL
  have HL0 := Lib.hid hL0
  clear hK0 hP0 hL0
  have TOLD : Hid (∀ (x : Bool) r, (x = true ↔ L0) → ListsTold c0 r → r = .returned (.bool x)) := Lib.hid (by
    rintro x r hx ⟨y, rfl, hy⟩
    have : y = x := by rw [Bool.eq_iff_iff, hy, hx, HL0.out]
    rw [this])
  rcases hbx with ⟨p1, rfl⟩ | ⟨p1, p2, rfl⟩ | ⟨p1, p2, p3, rfl⟩ | ⟨p1, p2, p3, p4⟩
  · have P1 := Lib.hid p1
    clear p1
    go_enter Tryd.func18, Tryd.ntmps18
    go_wp2_with (first
      | (go_at_call 28; ((with_reducible refine (Hid.out HBE _ false C0.out (by simp [P1.out])).mono ?_); rintro r w1 ⟨k', so', me', ti', st', pa', oc', ra', A', B', C', D', E', n1', n2', n3', n4', n5', a', b', c', d', e', rfl, hC1, hb1⟩; have ST := START.out _ hb1; have C1 := Lib.hid hC1; have V1 := Lib.hid ST.1; have B1 := Lib.hid ST.2.1; have R1 := Lib.hid ST.2.2; clear ST hC1 hb1)))
    go_ret
    exact ⟨rfl, B1.out.trans (((Below.refl _ _).alloc (Nat.le_refl _) _).mono B1.out.size)⟩
  · have P1 := Lib.hid p1
    have P2 := Lib.hid p2
    clear p1 p2
    go_enter Tryd.func18, Tryd.ntmps18
    go_wp2_with (first
      | (go_at_call 28; ((with_reducible refine (Hid.out HBE _ true C0.out (by simp [P1.out])).mono ?_); rintro r w1 ⟨k', so', me', ti', st', pa', oc', ra', A', B', C', D', E', n1', n2', n3', n4', n5', a', b', c', d', e', rfl, hC1, hb1⟩; have ST := START.out _ hb1; have C1 := Lib.hid hC1; have V1 := Lib.hid ST.1; have B1 := Lib.hid ST.2.1; have R1 := Lib.hid ST.2.2; clear ST hC1 hb1))
      | (go_at_call 29; ((with_reducible refine (Hid.out HBL (w1.alloc (.cells #[.int .i64 k', .int .u32 so', .int .u32 me', .int .u64 ti', .int .u32 st', .int .u32 pa', .int .u32 oc', .slice A' n1' a', .slice B' n2' b', .slice C' n3' c', .slice D' n4' d', .slice E' n5' e', .int .u64 ra'] 50)) [.int .i64 k', .int .u32 so', .int .u32 me', .int .u64 ti', .int .u32 st', .int .u32 pa', .int .u32 oc', .slice A' n1' a', .slice B' n2' b', .slice C' n3' c', .slice D' n4' d', .slice E' n5' e', .int .u64 ra'] false (C1.out.below ((Below.refl _ _).alloc (Nat.le_refl _) _)) (by simp [P2.out])).mono ?_); rintro r w2 ⟨rfl, hb2⟩; have hb12 := ((Below.refl w1.heap.size w1).alloc (Nat.le_refl _) (.cells #[.int .i64 k', .int .u32 so', .int .u32 me', .int .u64 ti', .int .u32 st', .int .u32 pa', .int .u32 oc', .slice A' n1' a', .slice B' n2' b', .slice C' n3' c', .slice D' n4' d', .slice E' n5' e', .int .u64 ra'] 50)).trans (hb2.mono ((Below.refl w1.heap.size w1).alloc (Nat.le_refl _) (.cells #[.int .i64 k', .int .u32 so', .int .u32 me', .int .u64 ti', .int .u32 st', .int .u32 pa', .int .u32 oc', .slice A' n1' a', .slice B' n2' b', .slice C' n3' c', .slice D' n4' d', .slice E' n5' e', .int .u64 ra'] 50)).size); have V2 := Lib.hid (V1.out.below hb12 V1.out.lt); have B2 := Lib.hid (B1.out.trans (hb12.mono B1.out.size)); have R2 := Lib.hid (R1.out.below hb12); clear hb2 hb12)))
    go_ret
    exact ⟨rfl, B2.out⟩
  · have P1 := Lib.hid p1
    have P2 := Lib.hid p2
    have P3 := Lib.hid p3
    clear p1 p2 p3
    go_enter Tryd.func18, Tryd.ntmps18
    go_wp2_with (first
      | (go_at_call 28; ((with_reducible refine (Hid.out HBE _ true C0.out (by simp [P1.out])).mono ?_); rintro r w1 ⟨k', so', me', ti', st', pa', oc', ra', A', B', C', D', E', n1', n2', n3', n4', n5', a', b', c', d', e', rfl, hC1, hb1⟩; have ST := START.out _ hb1; have C1 := Lib.hid hC1; have V1 := Lib.hid ST.1; have B1 := Lib.hid ST.2.1; have R1 := Lib.hid ST.2.2; clear ST hC1 hb1))
      | (go_at_call 29; ((with_reducible refine (Hid.out HBL (w1.alloc (.cells #[.int .i64 k', .int .u32 so', .int .u32 me', .int .u64 ti', .int .u32 st', .int .u32 pa', .int .u32 oc', .slice A' n1' a', .slice B' n2' b', .slice C' n3' c', .slice D' n4' d', .slice E' n5' e', .int .u64 ra'] 50)) [.int .i64 k', .int .u32 so', .int .u32 me', .int .u64 ti', .int .u32 st', .int .u32 pa', .int .u32 oc', .slice A' n1' a', .slice B' n2' b', .slice C' n3' c', .slice D' n4' d', .slice E' n5' e', .int .u64 ra'] true (C1.out.below ((Below.refl _ _).alloc (Nat.le_refl _) _)) (by simp [P2.out])).mono ?_); rintro r w2 ⟨rfl, hb2⟩; have hb12 := ((Below.refl w1.heap.size w1).alloc (Nat.le_refl _) (.cells #[.int .i64 k', .int .u32 so', .int .u32 me', .int .u64 ti', .int .u32 st', .int .u32 pa', .int .u32 oc', .slice A' n1' a', .slice B' n2' b', .slice C' n3' c', .slice D' n4' d', .slice E' n5' e', .int .u64 ra'] 50)).trans (hb2.mono ((Below.refl w1.heap.size w1).alloc (Nat.le_refl _) (.cells #[.int .i64 k', .int .u32 so', .int .u32 me', .int .u64 ti', .int .u32 st', .int .u32 pa', .int .u32 oc', .slice A' n1' a', .slice B' n2' b', .slice C' n3' c', .slice D' n4' d', .slice E' n5' e', .int .u64 ra'] 50)).size); have V2 := Lib.hid (V1.out.below hb12 V1.out.lt); have B2 := Lib.hid (B1.out.trans (hb12.mono B1.out.size)); have R2 := Lib.hid (R1.out.below hb12); clear hb2 hb12))
      | (with_reducible refine wpList_ldC (by with_unfolding_all rfl) 50 (.tmp 1) rfl w.heap.size 0 rfl [.int .i64 c0.k, .int .u32 (c0.so : Int), .int .u32 (c0.me : Int), .int .u64 (c0.ti : Int), .int .u32 (c0.st : Int), .int .u32 (c0.pa : Int), .int .u32 (c0.oc : Int), .slice A c0.reps.length a, .slice B c0.nams.length b, .slice C c0.srcs.length c, .slice D c0.loss.length d, .slice E c0.firs.length e, .int .u64 (c0.ra : Int)] (V2.out.range 0 _ (fun i _ => by rw [Nat.zero_add])) (rowCtl rfl) ?_)
      | (go_at_call 30; ((with_reducible refine (Hid.out HLI _ R2.out).mono ?_); rintro r w3 ⟨hr, hb3⟩; obtain rfl := TOLD.out false r (by simp [P3.out]) hr; have B3 := Lib.hid (B2.out.trans (hb3.mono B2.out.size)); have k12 : w3.cell? ⟨w.heap.size, 12, none⟩ = some (.int .u64 (c0.ra : Int)) := ((V2.out.below hb3 V2.out.lt).cell 12).trans rfl; clear hr hb3)))
    go_ret
    exact ⟨rfl, B3.out⟩
  · have P1 := Lib.hid p1
    have P2 := Lib.hid p2
    have P3 := Lib.hid p3
    have HX := Lib.hid p4
    clear p1 p2 p3 p4
    go_enter Tryd.func18, Tryd.ntmps18
    go_wp2_with (first
      | (go_at_call 28; ((with_reducible refine (Hid.out HBE _ true C0.out (by simp [P1.out])).mono ?_); rintro r w1 ⟨k', so', me', ti', st', pa', oc', ra', A', B', C', D', E', n1', n2', n3', n4', n5', a', b', c', d', e', rfl, hC1, hb1⟩; have ST := START.out _ hb1; have C1 := Lib.hid hC1; have V1 := Lib.hid ST.1; have B1 := Lib.hid ST.2.1; have R1 := Lib.hid ST.2.2; clear ST hC1 hb1))
      | (go_at_call 29; ((with_reducible refine (Hid.out HBL (w1.alloc (.cells #[.int .i64 k', .int .u32 so', .int .u32 me', .int .u64 ti', .int .u32 st', .int .u32 pa', .int .u32 oc', .slice A' n1' a', .slice B' n2' b', .slice C' n3' c', .slice D' n4' d', .slice E' n5' e', .int .u64 ra'] 50)) [.int .i64 k', .int .u32 so', .int .u32 me', .int .u64 ti', .int .u32 st', .int .u32 pa', .int .u32 oc', .slice A' n1' a', .slice B' n2' b', .slice C' n3' c', .slice D' n4' d', .slice E' n5' e', .int .u64 ra'] true (C1.out.below ((Below.refl _ _).alloc (Nat.le_refl _) _)) (by simp [P2.out])).mono ?_); rintro r w2 ⟨rfl, hb2⟩; have hb12 := ((Below.refl w1.heap.size w1).alloc (Nat.le_refl _) (.cells #[.int .i64 k', .int .u32 so', .int .u32 me', .int .u64 ti', .int .u32 st', .int .u32 pa', .int .u32 oc', .slice A' n1' a', .slice B' n2' b', .slice C' n3' c', .slice D' n4' d', .slice E' n5' e', .int .u64 ra'] 50)).trans (hb2.mono ((Below.refl w1.heap.size w1).alloc (Nat.le_refl _) (.cells #[.int .i64 k', .int .u32 so', .int .u32 me', .int .u64 ti', .int .u32 st', .int .u32 pa', .int .u32 oc', .slice A' n1' a', .slice B' n2' b', .slice C' n3' c', .slice D' n4' d', .slice E' n5' e', .int .u64 ra'] 50)).size); have V2 := Lib.hid (V1.out.below hb12 V1.out.lt); have B2 := Lib.hid (B1.out.trans (hb12.mono B1.out.size)); have R2 := Lib.hid (R1.out.below hb12); clear hb2 hb12))
      | (with_reducible refine wpList_ldC (by with_unfolding_all rfl) 50 (.tmp 1) rfl w.heap.size 0 rfl [.int .i64 c0.k, .int .u32 (c0.so : Int), .int .u32 (c0.me : Int), .int .u64 (c0.ti : Int), .int .u32 (c0.st : Int), .int .u32 (c0.pa : Int), .int .u32 (c0.oc : Int), .slice A c0.reps.length a, .slice B c0.nams.length b, .slice C c0.srcs.length c, .slice D c0.loss.length d, .slice E c0.firs.length e, .int .u64 (c0.ra : Int)] (V2.out.range 0 _ (fun i _ => by rw [Nat.zero_add])) (rowCtl rfl) ?_)
      | (go_at_call 30; ((with_reducible refine (Hid.out HLI _ R2.out).mono ?_); rintro r w3 ⟨hr, hb3⟩; obtain rfl := TOLD.out true r (by simp [P3.out]) hr; have B3 := Lib.hid (B2.out.trans (hb3.mono B2.out.size)); have k12 : w3.cell? ⟨w.heap.size, 12, none⟩ = some (.int .u64 (c0.ra : Int)) := ((V2.out.below hb3 V2.out.lt).cell 12).trans rfl; clear hr hb3))
      | (go_at_call 31; ((with_reducible refine (Hid.out HRA _ bb HX.out).mono ?_); rintro r w4 ⟨rfl, rfl⟩)))
    go_ret
    exact ⟨rfl, B3.out⟩
end Go.Proofs.YtacaempcbdekaaaDoor
