/- Several texts in one: plain words and walks. No statement is proved here. -/
import Derived.Test.YtheefckohnaceaaGreatDoorZM18
import Derived.Test.YtheefckohnaceaaGreatDoorZM15
import Derived.BigQuiet
import Derived.Test.YtheefckohnaceaaGreatDoorZReg
import Derived.Deep.RegionHeld3
namespace Go.Proofs.YtheefckohnaceaaGreatDoor
open List renaming getElem_toArray → xgT, getElem_cons_succ → xgS, getElem_cons_zero → xgZ, setIfInBounds_toArray → xsT, set_cons_succ → xsS, set_cons_zero → xsZ
open Go.RowKit
set_option linter.unusedVariables false

def knownK (k : Int) : Prop := k = 200 ∨ k = 201 ∨ k = 202 ∨ k = 203 ∨ k = 1 ∨ k = 2 ∨ k = 3 ∨ k = 4
def besC (c : Ctl) : Ctl :=
 if c.k = 200 then { c with so := 0, ti := 0, st := 0, pa := 0, oc := 0, reps := [] } else
 if c.k = 201 then { c with so := 0, reps := [] } else
 if c.k = 202 then { c with nams := [] } else
 if c.k = 203 then { c with srcs := [] } else
 if c.k = 1 then { c with so := 0, me := 0, loss := [] } else
 if c.k = 2 then { c with so := 0, me := 0 } else
 if c.k = 3 then { c with so := 0, firs := [] } else
 if c.k = 4 then { c with so := 0, srcs := [], ra := 0 } else
 ⟨0, 0, 0, 0, 0, 0, 0, [], [], [], [], [], 0⟩

def BesTold (c0 : Ctl) (kn : Bool) (w : World) (r : Ending) (w' : World) : Prop := ∃ (k so me ti st pa oc ra : Int) (A B C D E : Option Addr) (n1 n2 n3 n4 n5 a b c d e : Nat),
 r = .returned (.tuple #[.agg #[.int .i64 k, .int .u32 so, .int .u32 me, .int .u64 ti, .int .u32 st, .int .u32 pa, .int .u32 oc, .slice A n1 a, .slice B n2 b, .slice C n3 c, .slice D n4 d, .slice E n5 e, .int .u64 ra], .bool kn]) ∧ CtRd w' [.int .i64 k, .int .u32 so, .int .u32 me, .int .u64 ti, .int .u32 st, .int .u32 pa, .int .u32 oc, .slice A n1 a, .slice B n2 b, .slice C n3 c, .slice D n4 d, .slice E n5 e, .int .u64 ra] (besC c0) ∧ Below w.heap.size w w'

theorem besides_any (cs : List Value) (c0 : Ctl) (w : World) (h : CtRd w cs c0) (kn : Bool) (hkn : kn = true ↔ knownK c0.k) :
 Calls Tryz.prog 48 #[.agg cs.toArray] w (BesTold c0 kn w) := by
 obtain ⟨A, a, B, b, C, c, D, d, E, e, h0, h1, h2, h3, h4, h5⟩ := h
 subst h0
 obtain ⟨k, so, me, ti, st, pa, oc, reps, nams, srcs, loss, firs, ra⟩ := c0
 simp only at hkn h1 h2 h3 h4 h5
 by_cases hk : knownK k
 · obtain rfl : kn = true := hkn.2 hk
   rcases hk with rfl | rfl | rfl | rfl | rfl | rfl | rfl | rfl
   · refine (besides_200 so me ti st pa oc ra A B C D E reps.length nams.length srcs.length loss.length firs.length a b c d e w).mono ?_
     rintro r w' ⟨rfl, hb⟩
     have hbe : besC ⟨200, so, me, ti, st, pa, oc, reps, nams, srcs, loss, firs, ra⟩ = ⟨200, 0, me, 0, 0, 0, 0, [], nams, srcs, loss, firs, ra⟩ := by simp [besC]
     refine ⟨(200), 0, (me : Int), 0, 0, 0, 0, (ra : Int), none, B, C, D, E, 0, nams.length, srcs.length, loss.length, firs.length, 0, b, c, d, e, rfl, ?_, hb⟩
     rw [hbe]
     exact ⟨none, 0, B, b, C, c, D, d, E, e, rfl, RdG.none_ cRep 7 _, h2.below hb, h3.below hb, h4.below hb, h5.below hb⟩
   · refine (besides_201 so me ti st pa oc ra A B C D E reps.length nams.length srcs.length loss.length firs.length a b c d e w).mono ?_
     rintro r w' ⟨rfl, hb⟩
     have hbe : besC ⟨201, so, me, ti, st, pa, oc, reps, nams, srcs, loss, firs, ra⟩ = ⟨201, 0, me, ti, st, pa, oc, [], nams, srcs, loss, firs, ra⟩ := by simp [besC]
     refine ⟨(201), 0, (me : Int), (ti : Int), (st : Int), (pa : Int), (oc : Int), (ra : Int), none, B, C, D, E, 0, nams.length, srcs.length, loss.length, firs.length, 0, b, c, d, e, rfl, ?_, hb⟩
     rw [hbe]
     exact ⟨none, 0, B, b, C, c, D, d, E, e, rfl, RdG.none_ cRep 7 _, h2.below hb, h3.below hb, h4.below hb, h5.below hb⟩
   · refine (besides_202 so me ti st pa oc ra A B C D E reps.length nams.length srcs.length loss.length firs.length a b c d e w).mono ?_
     rintro r w' ⟨rfl, hb⟩
     have hbe : besC ⟨202, so, me, ti, st, pa, oc, reps, nams, srcs, loss, firs, ra⟩ = ⟨202, so, me, ti, st, pa, oc, reps, [], srcs, loss, firs, ra⟩ := by simp [besC]
     refine ⟨(202), (so : Int), (me : Int), (ti : Int), (st : Int), (pa : Int), (oc : Int), (ra : Int), A, none, C, D, E, reps.length, 0, srcs.length, loss.length, firs.length, a, 0, c, d, e, rfl, ?_, hb⟩
     rw [hbe]
     exact ⟨A, a, none, 0, C, c, D, d, E, e, rfl, h1.below hb, RdG.none_ cNam 2 _, h3.below hb, h4.below hb, h5.below hb⟩
   · refine (besides_203 so me ti st pa oc ra A B C D E reps.length nams.length srcs.length loss.length firs.length a b c d e w).mono ?_
     rintro r w' ⟨rfl, hb⟩
     have hbe : besC ⟨203, so, me, ti, st, pa, oc, reps, nams, srcs, loss, firs, ra⟩ = ⟨203, so, me, ti, st, pa, oc, reps, nams, [], loss, firs, ra⟩ := by simp [besC]
     refine ⟨(203), (so : Int), (me : Int), (ti : Int), (st : Int), (pa : Int), (oc : Int), (ra : Int), A, B, none, D, E, reps.length, nams.length, 0, loss.length, firs.length, a, b, 0, d, e, rfl, ?_, hb⟩
     rw [hbe]
     exact ⟨A, a, B, b, none, 0, D, d, E, e, rfl, h1.below hb, h2.below hb, RdG.none_ cSrc 1 _, h4.below hb, h5.below hb⟩
   · refine (besides_1 so me ti st pa oc ra A B C D E reps.length nams.length srcs.length loss.length firs.length a b c d e w).mono ?_
     rintro r w' ⟨rfl, hb⟩
     have hbe : besC ⟨1, so, me, ti, st, pa, oc, reps, nams, srcs, loss, firs, ra⟩ = ⟨1, 0, 0, ti, st, pa, oc, reps, nams, srcs, [], firs, ra⟩ := by simp [besC]
     refine ⟨(1), 0, 0, (ti : Int), (st : Int), (pa : Int), (oc : Int), (ra : Int), A, B, C, none, E, reps.length, nams.length, srcs.length, 0, firs.length, a, b, c, 0, e, rfl, ?_, hb⟩
     rw [hbe]
     exact ⟨A, a, B, b, C, c, none, 0, E, e, rfl, h1.below hb, h2.below hb, h3.below hb, RdG.none_ cLos 2 _, h5.below hb⟩
   · refine (besides_2 so me ti st pa oc ra A B C D E reps.length nams.length srcs.length loss.length firs.length a b c d e w).mono ?_
     rintro r w' ⟨rfl, hb⟩
     have hbe : besC ⟨2, so, me, ti, st, pa, oc, reps, nams, srcs, loss, firs, ra⟩ = ⟨2, 0, 0, ti, st, pa, oc, reps, nams, srcs, loss, firs, ra⟩ := by simp [besC]
     refine ⟨(2), 0, 0, (ti : Int), (st : Int), (pa : Int), (oc : Int), (ra : Int), A, B, C, D, E, reps.length, nams.length, srcs.length, loss.length, firs.length, a, b, c, d, e, rfl, ?_, hb⟩
     rw [hbe]
     exact ⟨A, a, B, b, C, c, D, d, E, e, rfl, h1.below hb, h2.below hb, h3.below hb, h4.below hb, h5.below hb⟩
   · refine (besides_3 so me ti st pa oc ra A B C D E reps.length nams.length srcs.length loss.length firs.length a b c d e w).mono ?_
     rintro r w' ⟨rfl, hb⟩
     have hbe : besC ⟨3, so, me, ti, st, pa, oc, reps, nams, srcs, loss, firs, ra⟩ = ⟨3, 0, me, ti, st, pa, oc, reps, nams, srcs, loss, [], ra⟩ := by simp [besC]
     refine ⟨(3), 0, (me : Int), (ti : Int), (st : Int), (pa : Int), (oc : Int), (ra : Int), A, B, C, D, none, reps.length, nams.length, srcs.length, loss.length, 0, a, b, c, d, 0, rfl, ?_, hb⟩
     rw [hbe]
     exact ⟨A, a, B, b, C, c, D, d, none, 0, rfl, h1.below hb, h2.below hb, h3.below hb, h4.below hb, RdG.none_ cFir 2 _⟩
   · refine (besides_4 so me ti st pa oc ra A B C D E reps.length nams.length srcs.length loss.length firs.length a b c d e w).mono ?_
     rintro r w' ⟨rfl, hb⟩
     have hbe : besC ⟨4, so, me, ti, st, pa, oc, reps, nams, srcs, loss, firs, ra⟩ = ⟨4, 0, me, ti, st, pa, oc, reps, nams, [], loss, firs, 0⟩ := by simp [besC]
     refine ⟨(4), 0, (me : Int), (ti : Int), (st : Int), (pa : Int), (oc : Int), 0, A, B, none, D, E, reps.length, nams.length, 0, loss.length, firs.length, a, b, 0, d, e, rfl, ?_, hb⟩
     rw [hbe]
     exact ⟨A, a, B, b, none, 0, D, d, E, e, rfl, h1.below hb, h2.below hb, RdG.none_ cSrc 1 _, h4.below hb, h5.below hb⟩
 · obtain rfl : kn = false := by
    cases kn with
    | false => rfl
    | true => exact absurd (hkn.1 rfl) hk
   have hk' := hk
   unfold knownK at hk'
   have q : ¬ k = 200 ∧ ¬ k = 201 ∧ ¬ k = 202 ∧ ¬ k = 203 ∧ ¬ k = 1 ∧ ¬ k = 2 ∧ ¬ k = 3 ∧ ¬ k = 4 := by omega
   obtain ⟨q1, q2, q3, q4, q5, q6, q7, q8⟩ := q
   refine (besides_none k q1 q2 q3 q4 q5 q6 q7 q8 so me ti st pa oc ra A B C D E reps.length nams.length srcs.length loss.length firs.length a b c d e w).mono ?_
   rintro r w' ⟨rfl, hb⟩
   have hbe : besC ⟨k, so, me, ti, st, pa, oc, reps, nams, srcs, loss, firs, ra⟩ = ⟨0, 0, 0, 0, 0, 0, 0, [], [], [], [], [], 0⟩ := by simp [besC, q1, q2, q3, q4, q5, q6, q7, q8]
   refine ⟨0, 0, 0, 0, 0, 0, 0, 0, none, none, none, none, none, 0, 0, 0, 0, 0, 0, 0, 0, 0, 0, rfl, ?_, hb⟩
   rw [hbe]
   exact ⟨none, 0, none, 0, none, 0, none, 0, none, 0, rfl, RdG.none_ cRep 7 _, RdG.none_ cNam 2 _, RdG.none_ cSrc 1 _, RdG.none_ cLos 2 _, RdG.none_ cFir 2 _⟩

theorem wpList_ldC {P : Program} {w : World} {ops : Array Oper} {rest : List Oper} {op : Oper} {a : Act} {Q : Exit → Act → World → Prop} (hw : Region.wanted op (yielded ops a.tmps) = true) (ty : TypeId) (x : Operand) (ho : op.op = .load ty x) (b o : Nat) (hx : a.eval x = .pointer (some ⟨b, o, none⟩)) (cs : List Value) (hc : w.rangeAt b o cs) (hT : RowTy P ty cs.length)
 (h : wpList P ops Q rest (a.put op.dst (.agg cs.toArray)) w) : wpList P ops Q (op :: rest) a w := by
 obtain ⟨d, h1, h2, h3⟩ := hT
 exact wpList_step fun K hK => by rw [if_pos hw]; exact wp_load_mid ty x ho b o hx cs d hc h1 h2 h3 (hK _ _ h)

def rateP (x : Nat) : Prop := x < 9223372036854775808 ∧ rM x * 2 ^ rE x = x
def mayK (c : Ctl) : Prop := knownK c.k ∧ blankC (besC c) ∧ listsC c ∧ rateP c.ra
theorem besC_fit {c : Ctl} (h : c.fit) : (besC c).fit := by
 obtain ⟨k, so, me, ti, st, pa, oc, reps, nams, srcs, loss, firs, ra⟩ := c
 obtain ⟨f0, f1, f2, f3, f4, f5, f6, f7, f8, f9, fa, fb, fc⟩ := h
 simp only at f0 f1 f2 f3 f4 f5 f6 f7 f8 f9 fa fb fc
 unfold besC
 simp only
 by_cases q200 : k = 200
 · rw [if_pos q200]; exact ⟨f0, (by simp), f2, (by simp), (by simp), (by simp), (by simp), (by simp), f8, f9, fa, fb, fc⟩
 rw [if_neg q200]
 by_cases q201 : k = 201
 · rw [if_pos q201]; exact ⟨f0, (by simp), f2, f3, f4, f5, f6, (by simp), f8, f9, fa, fb, fc⟩
 rw [if_neg q201]
 by_cases q202 : k = 202
 · rw [if_pos q202]; exact ⟨f0, f1, f2, f3, f4, f5, f6, f7, (by simp), f9, fa, fb, fc⟩
 rw [if_neg q202]
 by_cases q203 : k = 203
 · rw [if_pos q203]; exact ⟨f0, f1, f2, f3, f4, f5, f6, f7, f8, (by simp), fa, fb, fc⟩
 rw [if_neg q203]
 by_cases q1 : k = 1
 · rw [if_pos q1]; exact ⟨f0, (by simp), (by simp), f3, f4, f5, f6, f7, f8, f9, (by simp), fb, fc⟩
 rw [if_neg q1]
 by_cases q2 : k = 2
 · rw [if_pos q2]; exact ⟨f0, (by simp), (by simp), f3, f4, f5, f6, f7, f8, f9, fa, fb, fc⟩
 rw [if_neg q2]
 by_cases q3 : k = 3
 · rw [if_pos q3]; exact ⟨f0, (by simp), f2, f3, f4, f5, f6, f7, f8, f9, fa, (by simp), fc⟩
 rw [if_neg q3]
 by_cases q4 : k = 4
 · rw [if_pos q4]; exact ⟨f0, (by simp), f2, f3, f4, f5, f6, f7, f8, (by simp), fa, fb, (by simp)⟩
 rw [if_neg q4]
 exact ⟨(by simp), (by simp), (by simp), (by simp), (by simp), (by simp), (by simp), (by simp), (by simp), (by simp), (by simp), (by simp), (by simp)⟩

set_option maxRecDepth 100000 in
set_option maxHeartbeats 1000000 in
theorem mayBe_any (cs : List Value) (c0 : Ctl) (w : World) (h : CtRd w cs c0) (hf : c0.fit) (bb : Bool) (hbb : bb = true ↔ mayK c0) :
 Calls Tryz.prog 29 #[.agg cs.toArray] w fun r w' => r = .returned (.bool bb) ∧ Below w.heap.size w w' := by
 obtain ⟨hB0, hC0, b0⟩ := box_facts w cs c0 h
 have C0 := Lib.hid hC0
 obtain ⟨A, a, B, b, C, c, D, d, E, e, h0, -⟩ := h
 subst h0
 have HBE : Hid (∀ W kn, CtRd W [.int .i64 c0.k, .int .u32 (c0.so : Int), .int .u32 (c0.me : Int), .int .u64 (c0.ti : Int), .int .u32 (c0.st : Int), .int .u32 (c0.pa : Int), .int .u32 (c0.oc : Int), .slice A c0.reps.length a, .slice B c0.nams.length b, .slice C c0.srcs.length c, .slice D c0.loss.length d, .slice E c0.firs.length e, .int .u64 (c0.ra : Int)] c0 → (kn = true ↔ knownK c0.k) → Calls Tryz.prog 48 #[.agg #[.int .i64 c0.k, .int .u32 (c0.so : Int), .int .u32 (c0.me : Int), .int .u64 (c0.ti : Int), .int .u32 (c0.st : Int), .int .u32 (c0.pa : Int), .int .u32 (c0.oc : Int), .slice A c0.reps.length a, .slice B c0.nams.length b, .slice C c0.srcs.length c, .slice D c0.loss.length d, .slice E c0.firs.length e, .int .u64 (c0.ra : Int)]] W (BesTold c0 kn W)) := Lib.hid fun W kn hW hk => besides_any _ c0 W hW kn hk
 have HLI : Hid (∀ W, CtRd W [.int .i64 c0.k, .int .u32 (c0.so : Int), .int .u32 (c0.me : Int), .int .u64 (c0.ti : Int), .int .u32 (c0.st : Int), .int .u32 (c0.pa : Int), .int .u32 (c0.oc : Int), .slice A c0.reps.length a, .slice B c0.nams.length b, .slice C c0.srcs.length c, .slice D c0.loss.length d, .slice E c0.firs.length e, .int .u64 (c0.ra : Int)] c0 → Calls Tryz.prog 50 #[.agg #[.int .i64 c0.k, .int .u32 (c0.so : Int), .int .u32 (c0.me : Int), .int .u64 (c0.ti : Int), .int .u32 (c0.st : Int), .int .u32 (c0.pa : Int), .int .u32 (c0.oc : Int), .slice A c0.reps.length a, .slice B c0.nams.length b, .slice C c0.srcs.length c, .slice D c0.loss.length d, .slice E c0.firs.length e, .int .u64 (c0.ra : Int)]] W fun r w' => ListsTold c0 r ∧ Below W.heap.size W w') := Lib.hid fun W hW => listsMayBe_any _ c0 W hW
 have HRA : Hid (∀ W x, (x = true ↔ rateP c0.ra) → Calls Tryz.prog 51 #[.int .u64 (c0.ra : Int)] W fun r w' => r = .returned (.bool x) ∧ W = w') := Lib.hid fun W x hx => rateMayBe_any c0.ra W (by obtain ⟨f0, f1, f2, f3, f4, f5, f6, f7, f8, f9, fa, fb, fc⟩ := hf; exact fc) x hx
 have HBL : Hid (∀ W cs' x, CtRd W cs' (besC c0) → (x = true ↔ blankC (besC c0)) → Calls Tryz.prog 49 #[.agg cs'.toArray] W fun r w' => r = .returned (.bool x) ∧ Below W.heap.size W w') := Lib.hid fun W cs' x h1 h2 => isBlank_any cs' _ W h1 (besC_fit hf) x h2
 unfold ctlC at C0 hB0 b0 ⊢
 have V0 := Lib.hid hB0
 have B0 := Lib.hid b0
 clear hB0 b0 hC0 hf
 have hbx : (¬ knownK c0.k ∧ bb = false) ∨ (knownK c0.k ∧ ¬ blankC (besC c0) ∧ bb = false) ∨ (knownK c0.k ∧ blankC (besC c0) ∧ ¬ listsC c0 ∧ bb = false) ∨ (knownK c0.k ∧ blankC (besC c0) ∧ listsC c0 ∧ (bb = true ↔ rateP c0.ra)) := by
  unfold mayK at hbb
  by_cases p1 : knownK c0.k
  · by_cases p2 : blankC (besC c0)
    · by_cases p3 : listsC c0
      · exact Or.inr (Or.inr (Or.inr ⟨p1, p2, p3, by rw [hbb]; simp [p1, p2, p3]⟩))
      · exact Or.inr (Or.inr (Or.inl ⟨p1, p2, p3, by cases bb <;> simp_all⟩))
    · exact Or.inr (Or.inl ⟨p1, p2, by cases bb <;> simp_all⟩)
  · exact Or.inl ⟨p1, by cases bb <;> simp_all⟩
 clear hbb
 have START : Hid (∀ w1, Below (w.alloc (.cells #[.int .i64 c0.k, .int .u32 (c0.so : Int), .int .u32 (c0.me : Int), .int .u64 (c0.ti : Int), .int .u32 (c0.st : Int), .int .u32 (c0.pa : Int), .int .u32 (c0.oc : Int), .slice A c0.reps.length a, .slice B c0.nams.length b, .slice C c0.srcs.length c, .slice D c0.loss.length d, .slice E c0.firs.length e, .int .u64 (c0.ra : Int)] 58)).heap.size (w.alloc (.cells #[.int .i64 c0.k, .int .u32 (c0.so : Int), .int .u32 (c0.me : Int), .int .u64 (c0.ti : Int), .int .u32 (c0.st : Int), .int .u32 (c0.pa : Int), .int .u32 (c0.oc : Int), .slice A c0.reps.length a, .slice B c0.nams.length b, .slice C c0.srcs.length c, .slice D c0.loss.length d, .slice E c0.firs.length e, .int .u64 (c0.ra : Int)] 58)) w1 → BlkV w1 w.heap.size 58 [.int .i64 c0.k, .int .u32 (c0.so : Int), .int .u32 (c0.me : Int), .int .u64 (c0.ti : Int), .int .u32 (c0.st : Int), .int .u32 (c0.pa : Int), .int .u32 (c0.oc : Int), .slice A c0.reps.length a, .slice B c0.nams.length b, .slice C c0.srcs.length c, .slice D c0.loss.length d, .slice E c0.firs.length e, .int .u64 (c0.ra : Int)] ∧ Below w.heap.size w w1 ∧ CtRd w1 [.int .i64 c0.k, .int .u32 (c0.so : Int), .int .u32 (c0.me : Int), .int .u64 (c0.ti : Int), .int .u32 (c0.st : Int), .int .u32 (c0.pa : Int), .int .u32 (c0.oc : Int), .slice A c0.reps.length a, .slice B c0.nams.length b, .slice C c0.srcs.length c, .slice D c0.loss.length d, .slice E c0.firs.length e, .int .u64 (c0.ra : Int)] c0) := Lib.hid fun w1 hb => ⟨V0.out.below hb V0.out.lt, B0.out.trans (hb.mono B0.out.size), C0.out.below hb⟩
 obtain ⟨K0, hK0⟩ : ∃ K0 : Prop, K0 = knownK c0.k := ⟨_, rfl⟩
 obtain ⟨P0, hP0⟩ : ∃ P0 : Prop, P0 = blankC (besC c0) := ⟨_, rfl⟩
 obtain ⟨L0, hL0⟩ : ∃ L0 : Prop, L0 = listsC c0 := ⟨_, rfl⟩
 rw [← hK0, ← hP0, ← hL0] at hbx
 rw [← hK0] at HBE
 rw [← hP0] at HBL
 have HL0 := Lib.hid hL0
 clear hK0 hP0 hL0
 have TOLD : Hid (∀ (x : Bool) r, (x = true ↔ L0) → ListsTold c0 r → r = .returned (.bool x)) := Lib.hid (by
  rintro x r hx ⟨y, rfl, hy⟩
  have : y = x := by rw [Bool.eq_iff_iff, hy, hx, HL0.out]
  rw [this])
 rcases hbx with ⟨p1, rfl⟩ | ⟨p1, p2, rfl⟩ | ⟨p1, p2, p3, rfl⟩ | ⟨p1, p2, p3, p4⟩
 · have P1 := Lib.hid p1
   clear p1
   go_enter Tryz.func29, Tryz.ntmps29
   go_wp2_with (first
    | (go_at_call 48; ((with_reducible refine (Hid.out HBE _ false C0.out (by simp [P1.out])).mono ?_); rintro r w1 ⟨k', so', me', ti', st', pa', oc', ra', A', B', C', D', E', n1', n2', n3', n4', n5', a', b', c', d', e', rfl, hC1, hb1⟩; have ST := START.out _ hb1; have C1 := Lib.hid hC1; have V1 := Lib.hid ST.1; have B1 := Lib.hid ST.2.1; have R1 := Lib.hid ST.2.2; clear ST hC1 hb1)))
   go_ret
   exact ⟨rfl, B1.out.trans (((Below.refl _ _).alloc (Nat.le_refl _) _).mono B1.out.size)⟩
 · have P1 := Lib.hid p1
   have P2 := Lib.hid p2
   clear p1 p2
   go_enter Tryz.func29, Tryz.ntmps29
   go_wp2_with (first
    | (go_at_call 48; ((with_reducible refine (Hid.out HBE _ true C0.out (by simp [P1.out])).mono ?_); rintro r w1 ⟨k', so', me', ti', st', pa', oc', ra', A', B', C', D', E', n1', n2', n3', n4', n5', a', b', c', d', e', rfl, hC1, hb1⟩; have ST := START.out _ hb1; have C1 := Lib.hid hC1; have V1 := Lib.hid ST.1; have B1 := Lib.hid ST.2.1; have R1 := Lib.hid ST.2.2; clear ST hC1 hb1))
    | (go_at_call 49; ((with_reducible refine (Hid.out HBL (w1.alloc (.cells #[.int .i64 k', .int .u32 so', .int .u32 me', .int .u64 ti', .int .u32 st', .int .u32 pa', .int .u32 oc', .slice A' n1' a', .slice B' n2' b', .slice C' n3' c', .slice D' n4' d', .slice E' n5' e', .int .u64 ra'] 58)) [.int .i64 k', .int .u32 so', .int .u32 me', .int .u64 ti', .int .u32 st', .int .u32 pa', .int .u32 oc', .slice A' n1' a', .slice B' n2' b', .slice C' n3' c', .slice D' n4' d', .slice E' n5' e', .int .u64 ra'] false (C1.out.below ((Below.refl _ _).alloc (Nat.le_refl _) _)) (by simp [P2.out])).mono ?_); rintro r w2 ⟨rfl, hb2⟩; have hb12 := ((Below.refl w1.heap.size w1).alloc (Nat.le_refl _) (.cells #[.int .i64 k', .int .u32 so', .int .u32 me', .int .u64 ti', .int .u32 st', .int .u32 pa', .int .u32 oc', .slice A' n1' a', .slice B' n2' b', .slice C' n3' c', .slice D' n4' d', .slice E' n5' e', .int .u64 ra'] 58)).trans (hb2.mono ((Below.refl w1.heap.size w1).alloc (Nat.le_refl _) (.cells #[.int .i64 k', .int .u32 so', .int .u32 me', .int .u64 ti', .int .u32 st', .int .u32 pa', .int .u32 oc', .slice A' n1' a', .slice B' n2' b', .slice C' n3' c', .slice D' n4' d', .slice E' n5' e', .int .u64 ra'] 58)).size); have V2 := Lib.hid (V1.out.below hb12 V1.out.lt); have B2 := Lib.hid (B1.out.trans (hb12.mono B1.out.size)); have R2 := Lib.hid (R1.out.below hb12); clear hb2 hb12)))
   go_ret
   exact ⟨rfl, B2.out⟩
 · have P1 := Lib.hid p1
   have P2 := Lib.hid p2
   have P3 := Lib.hid p3
   clear p1 p2 p3
   go_enter Tryz.func29, Tryz.ntmps29
   go_wp2_with (first
    | (go_at_call 48; ((with_reducible refine (Hid.out HBE _ true C0.out (by simp [P1.out])).mono ?_); rintro r w1 ⟨k', so', me', ti', st', pa', oc', ra', A', B', C', D', E', n1', n2', n3', n4', n5', a', b', c', d', e', rfl, hC1, hb1⟩; have ST := START.out _ hb1; have C1 := Lib.hid hC1; have V1 := Lib.hid ST.1; have B1 := Lib.hid ST.2.1; have R1 := Lib.hid ST.2.2; clear ST hC1 hb1))
    | (go_at_call 49; ((with_reducible refine (Hid.out HBL (w1.alloc (.cells #[.int .i64 k', .int .u32 so', .int .u32 me', .int .u64 ti', .int .u32 st', .int .u32 pa', .int .u32 oc', .slice A' n1' a', .slice B' n2' b', .slice C' n3' c', .slice D' n4' d', .slice E' n5' e', .int .u64 ra'] 58)) [.int .i64 k', .int .u32 so', .int .u32 me', .int .u64 ti', .int .u32 st', .int .u32 pa', .int .u32 oc', .slice A' n1' a', .slice B' n2' b', .slice C' n3' c', .slice D' n4' d', .slice E' n5' e', .int .u64 ra'] true (C1.out.below ((Below.refl _ _).alloc (Nat.le_refl _) _)) (by simp [P2.out])).mono ?_); rintro r w2 ⟨rfl, hb2⟩; have hb12 := ((Below.refl w1.heap.size w1).alloc (Nat.le_refl _) (.cells #[.int .i64 k', .int .u32 so', .int .u32 me', .int .u64 ti', .int .u32 st', .int .u32 pa', .int .u32 oc', .slice A' n1' a', .slice B' n2' b', .slice C' n3' c', .slice D' n4' d', .slice E' n5' e', .int .u64 ra'] 58)).trans (hb2.mono ((Below.refl w1.heap.size w1).alloc (Nat.le_refl _) (.cells #[.int .i64 k', .int .u32 so', .int .u32 me', .int .u64 ti', .int .u32 st', .int .u32 pa', .int .u32 oc', .slice A' n1' a', .slice B' n2' b', .slice C' n3' c', .slice D' n4' d', .slice E' n5' e', .int .u64 ra'] 58)).size); have V2 := Lib.hid (V1.out.below hb12 V1.out.lt); have B2 := Lib.hid (B1.out.trans (hb12.mono B1.out.size)); have R2 := Lib.hid (R1.out.below hb12); clear hb2 hb12))
    | (with_reducible refine wpList_ldC (by with_unfolding_all rfl) 58 (.tmp 1) rfl w.heap.size 0 rfl [.int .i64 c0.k, .int .u32 (c0.so : Int), .int .u32 (c0.me : Int), .int .u64 (c0.ti : Int), .int .u32 (c0.st : Int), .int .u32 (c0.pa : Int), .int .u32 (c0.oc : Int), .slice A c0.reps.length a, .slice B c0.nams.length b, .slice C c0.srcs.length c, .slice D c0.loss.length d, .slice E c0.firs.length e, .int .u64 (c0.ra : Int)] (V2.out.range 0 _ (fun i _ => by rw [Nat.zero_add])) (rowCtl rfl) ?_)
    | (go_at_call 50; ((with_reducible refine (Hid.out HLI _ R2.out).mono ?_); rintro r w3 ⟨hr, hb3⟩; obtain rfl := TOLD.out false r (by simp [P3.out]) hr; have B3 := Lib.hid (B2.out.trans (hb3.mono B2.out.size)); have k12 : w3.cell? ⟨w.heap.size, 12, none⟩ = some (.int .u64 (c0.ra : Int)) := ((V2.out.below hb3 V2.out.lt).cell 12).trans rfl; clear hr hb3)))
   go_ret
   exact ⟨rfl, B3.out⟩
 · have P1 := Lib.hid p1
   have P2 := Lib.hid p2
   have P3 := Lib.hid p3
   have HX := Lib.hid p4
   clear p1 p2 p3 p4
   go_enter Tryz.func29, Tryz.ntmps29
   go_wp2_with (first
    | (go_at_call 48; ((with_reducible refine (Hid.out HBE _ true C0.out (by simp [P1.out])).mono ?_); rintro r w1 ⟨k', so', me', ti', st', pa', oc', ra', A', B', C', D', E', n1', n2', n3', n4', n5', a', b', c', d', e', rfl, hC1, hb1⟩; have ST := START.out _ hb1; have C1 := Lib.hid hC1; have V1 := Lib.hid ST.1; have B1 := Lib.hid ST.2.1; have R1 := Lib.hid ST.2.2; clear ST hC1 hb1))
    | (go_at_call 49; ((with_reducible refine (Hid.out HBL (w1.alloc (.cells #[.int .i64 k', .int .u32 so', .int .u32 me', .int .u64 ti', .int .u32 st', .int .u32 pa', .int .u32 oc', .slice A' n1' a', .slice B' n2' b', .slice C' n3' c', .slice D' n4' d', .slice E' n5' e', .int .u64 ra'] 58)) [.int .i64 k', .int .u32 so', .int .u32 me', .int .u64 ti', .int .u32 st', .int .u32 pa', .int .u32 oc', .slice A' n1' a', .slice B' n2' b', .slice C' n3' c', .slice D' n4' d', .slice E' n5' e', .int .u64 ra'] true (C1.out.below ((Below.refl _ _).alloc (Nat.le_refl _) _)) (by simp [P2.out])).mono ?_); rintro r w2 ⟨rfl, hb2⟩; have hb12 := ((Below.refl w1.heap.size w1).alloc (Nat.le_refl _) (.cells #[.int .i64 k', .int .u32 so', .int .u32 me', .int .u64 ti', .int .u32 st', .int .u32 pa', .int .u32 oc', .slice A' n1' a', .slice B' n2' b', .slice C' n3' c', .slice D' n4' d', .slice E' n5' e', .int .u64 ra'] 58)).trans (hb2.mono ((Below.refl w1.heap.size w1).alloc (Nat.le_refl _) (.cells #[.int .i64 k', .int .u32 so', .int .u32 me', .int .u64 ti', .int .u32 st', .int .u32 pa', .int .u32 oc', .slice A' n1' a', .slice B' n2' b', .slice C' n3' c', .slice D' n4' d', .slice E' n5' e', .int .u64 ra'] 58)).size); have V2 := Lib.hid (V1.out.below hb12 V1.out.lt); have B2 := Lib.hid (B1.out.trans (hb12.mono B1.out.size)); have R2 := Lib.hid (R1.out.below hb12); clear hb2 hb12))
    | (with_reducible refine wpList_ldC (by with_unfolding_all rfl) 58 (.tmp 1) rfl w.heap.size 0 rfl [.int .i64 c0.k, .int .u32 (c0.so : Int), .int .u32 (c0.me : Int), .int .u64 (c0.ti : Int), .int .u32 (c0.st : Int), .int .u32 (c0.pa : Int), .int .u32 (c0.oc : Int), .slice A c0.reps.length a, .slice B c0.nams.length b, .slice C c0.srcs.length c, .slice D c0.loss.length d, .slice E c0.firs.length e, .int .u64 (c0.ra : Int)] (V2.out.range 0 _ (fun i _ => by rw [Nat.zero_add])) (rowCtl rfl) ?_)
    | (go_at_call 50; ((with_reducible refine (Hid.out HLI _ R2.out).mono ?_); rintro r w3 ⟨hr, hb3⟩; obtain rfl := TOLD.out true r (by simp [P3.out]) hr; have B3 := Lib.hid (B2.out.trans (hb3.mono B2.out.size)); have k12 : w3.cell? ⟨w.heap.size, 12, none⟩ = some (.int .u64 (c0.ra : Int)) := ((V2.out.below hb3 V2.out.lt).cell 12).trans rfl; clear hr hb3))
    | (go_at_call 51; ((with_reducible refine (Hid.out HRA _ bb HX.out).mono ?_); rintro r w4 ⟨rfl, rfl⟩)))
   go_ret
   exact ⟨rfl, B3.out⟩
theorem nil_of {α : Type} {L : List α} (h : L.length = 0) : L = [] := List.length_eq_zero_iff.1 h
theorem rate0 : rateP 0 := ⟨by decide, by simp [rM]⟩
theorem mayK_of {c : Ctl} (h : mayK c) : mayC c := by
 obtain ⟨k, so, me, ti, st, pa, oc, reps, nams, srcs, loss, firs, ra⟩ := c
 obtain ⟨hk, hb, ⟨l1, l2, l3, l4, l5⟩, hr⟩ := h
 simp only [longN] at hk l1 l2 l3 l4 l5 hr
 rcases hk with rfl | rfl | rfl | rfl | rfl | rfl | rfl | rfl
 · have hbe : besC ⟨200, so, me, ti, st, pa, oc, reps, nams, srcs, loss, firs, ra⟩ = ⟨200, 0, me, 0, 0, 0, 0, [], nams, srcs, loss, firs, ra⟩ := by simp [besC]
   rw [hbe] at hb
   obtain ⟨b1, b2, b3, b4, b5, b6, b7, b8⟩ := hb
   simp only [longN, List.length_nil] at b1 b2 b3 b4 b5 b6 b7 b8
   subst b2
   obtain rfl : nams = [] := nil_of (by omega)
   obtain rfl : srcs = [] := nil_of (by omega)
   obtain rfl : loss = [] := nil_of (by omega)
   obtain rfl : firs = [] := nil_of (by omega)
   subst b7
   exact Or.inl ⟨so, ti, st, pa, oc, reps, rfl, by omega, l4⟩
 · have hbe : besC ⟨201, so, me, ti, st, pa, oc, reps, nams, srcs, loss, firs, ra⟩ = ⟨201, 0, me, ti, st, pa, oc, [], nams, srcs, loss, firs, ra⟩ := by simp [besC]
   rw [hbe] at hb
   obtain ⟨b1, b2, b3, b4, b5, b6, b7, b8⟩ := hb
   simp only [longN, List.length_nil] at b1 b2 b3 b4 b5 b6 b7 b8
   subst b2
   subst b6
   subst b3
   subst b4
   subst b5
   obtain rfl : nams = [] := nil_of (by omega)
   obtain rfl : srcs = [] := nil_of (by omega)
   obtain rfl : loss = [] := nil_of (by omega)
   obtain rfl : firs = [] := nil_of (by omega)
   subst b7
   exact Or.inr (Or.inl ⟨so, reps, rfl, by omega, l4⟩)
 · have hbe : besC ⟨202, so, me, ti, st, pa, oc, reps, nams, srcs, loss, firs, ra⟩ = ⟨202, so, me, ti, st, pa, oc, reps, [], srcs, loss, firs, ra⟩ := by simp [besC]
   rw [hbe] at hb
   obtain ⟨b1, b2, b3, b4, b5, b6, b7, b8⟩ := hb
   simp only [longN, List.length_nil] at b1 b2 b3 b4 b5 b6 b7 b8
   subst b1
   subst b2
   subst b6
   subst b3
   subst b4
   subst b5
   obtain rfl : reps = [] := nil_of (by omega)
   obtain rfl : srcs = [] := nil_of (by omega)
   obtain rfl : loss = [] := nil_of (by omega)
   obtain rfl : firs = [] := nil_of (by omega)
   subst b7
   exact Or.inr (Or.inr (Or.inl ⟨nams, rfl, by omega, l5⟩))
 · have hbe : besC ⟨203, so, me, ti, st, pa, oc, reps, nams, srcs, loss, firs, ra⟩ = ⟨203, so, me, ti, st, pa, oc, reps, nams, [], loss, firs, ra⟩ := by simp [besC]
   rw [hbe] at hb
   obtain ⟨b1, b2, b3, b4, b5, b6, b7, b8⟩ := hb
   simp only [longN, List.length_nil] at b1 b2 b3 b4 b5 b6 b7 b8
   subst b1
   subst b2
   subst b6
   subst b3
   subst b4
   subst b5
   obtain rfl : reps = [] := nil_of (by omega)
   obtain rfl : nams = [] := nil_of (by omega)
   obtain rfl : loss = [] := nil_of (by omega)
   obtain rfl : firs = [] := nil_of (by omega)
   subst b7
   exact Or.inr (Or.inr (Or.inr (Or.inl ⟨srcs, rfl, by omega⟩)))
 · have hbe : besC ⟨1, so, me, ti, st, pa, oc, reps, nams, srcs, loss, firs, ra⟩ = ⟨1, 0, 0, ti, st, pa, oc, reps, nams, srcs, [], firs, ra⟩ := by simp [besC]
   rw [hbe] at hb
   obtain ⟨b1, b2, b3, b4, b5, b6, b7, b8⟩ := hb
   simp only [longN, List.length_nil] at b1 b2 b3 b4 b5 b6 b7 b8
   subst b6
   subst b3
   subst b4
   subst b5
   obtain rfl : reps = [] := nil_of (by omega)
   obtain rfl : nams = [] := nil_of (by omega)
   obtain rfl : srcs = [] := nil_of (by omega)
   obtain rfl : firs = [] := nil_of (by omega)
   subst b7
   exact Or.inr (Or.inr (Or.inr (Or.inr (Or.inl ⟨so, me, loss, rfl, Nat.pos_of_ne_zero (fun h0 => l2 ⟨rfl, h0⟩), by omega⟩))))
 · have hbe : besC ⟨2, so, me, ti, st, pa, oc, reps, nams, srcs, loss, firs, ra⟩ = ⟨2, 0, 0, ti, st, pa, oc, reps, nams, srcs, loss, firs, ra⟩ := by simp [besC]
   rw [hbe] at hb
   obtain ⟨b1, b2, b3, b4, b5, b6, b7, b8⟩ := hb
   simp only [longN] at b1 b2 b3 b4 b5 b6 b7 b8
   subst b6
   subst b3
   subst b4
   subst b5
   obtain rfl : reps = [] := nil_of (by omega)
   obtain rfl : nams = [] := nil_of (by omega)
   obtain rfl : srcs = [] := nil_of (by omega)
   obtain rfl : loss = [] := nil_of (by omega)
   obtain rfl : firs = [] := nil_of (by omega)
   subst b7
   exact Or.inr (Or.inr (Or.inr (Or.inr (Or.inr (Or.inl ⟨so, me, rfl⟩)))))
 · have hbe : besC ⟨3, so, me, ti, st, pa, oc, reps, nams, srcs, loss, firs, ra⟩ = ⟨3, 0, me, ti, st, pa, oc, reps, nams, srcs, loss, [], ra⟩ := by simp [besC]
   rw [hbe] at hb
   obtain ⟨b1, b2, b3, b4, b5, b6, b7, b8⟩ := hb
   simp only [longN, List.length_nil] at b1 b2 b3 b4 b5 b6 b7 b8
   subst b2
   subst b6
   subst b3
   subst b4
   subst b5
   obtain rfl : reps = [] := nil_of (by omega)
   obtain rfl : nams = [] := nil_of (by omega)
   obtain rfl : srcs = [] := nil_of (by omega)
   obtain rfl : loss = [] := nil_of (by omega)
   subst b7
   exact Or.inr (Or.inr (Or.inr (Or.inr (Or.inr (Or.inr (Or.inl ⟨so, firs, rfl, Nat.pos_of_ne_zero (fun h0 => l3 ⟨rfl, h0⟩), by omega⟩))))))
 · have hbe : besC ⟨4, so, me, ti, st, pa, oc, reps, nams, srcs, loss, firs, ra⟩ = ⟨4, 0, me, ti, st, pa, oc, reps, nams, [], loss, firs, 0⟩ := by simp [besC]
   rw [hbe] at hb
   obtain ⟨b1, b2, b3, b4, b5, b6, b7, b8⟩ := hb
   simp only [longN, List.length_nil] at b1 b2 b3 b4 b5 b6 b7 b8
   subst b2
   subst b6
   subst b3
   subst b4
   subst b5
   obtain rfl : reps = [] := nil_of (by omega)
   obtain rfl : nams = [] := nil_of (by omega)
   obtain rfl : loss = [] := nil_of (by omega)
   obtain rfl : firs = [] := nil_of (by omega)
   exact Or.inr (Or.inr (Or.inr (Or.inr (Or.inr (Or.inr (Or.inr (⟨so, srcs, ra, rfl, by omega, hr.1, hr.2⟩)))))))
theorem mayK_iff (c : Ctl) : mayK c ↔ mayC c := by
 refine ⟨mayK_of, ?_⟩
 rintro (⟨so, ti, st, pa, oc, L, rfl, hL, hx⟩ | ⟨so, L, rfl, hL, hx⟩ | ⟨L, rfl, hL, hx⟩ | ⟨L, rfl, hL⟩ | ⟨so, me, L, rfl, h1, hL⟩ | ⟨so, me, rfl⟩ | ⟨so, L, rfl, h1, hL⟩ | ⟨so, L, ra, rfl, hL, hr1, hr2⟩)
 · exact ⟨by simp [knownK, mkSR], by simp [besC, mkSR, blankC, longN], ⟨by simp only [longN, mkSR, List.length_nil]; omega, by simp [mkSR], by simp [mkSR], hx, by simp [mkSR]⟩, rate0⟩
 · exact ⟨by simp [knownK, mkRR], by simp [besC, mkRR, blankC, longN], ⟨by simp only [longN, mkRR, List.length_nil]; omega, by simp [mkRR], by simp [mkRR], hx, by simp [mkRR]⟩, rate0⟩
 · exact ⟨by simp [knownK, mkSD], by simp [besC, mkSD, blankC, longN], ⟨by simp only [longN, mkSD, List.length_nil]; omega, by simp [mkSD], by simp [mkSD], by simp [mkSD], hx⟩, rate0⟩
 · exact ⟨by simp [knownK, mkBY], by simp [besC, mkBY, blankC, longN], ⟨by simp only [longN, mkBY, List.length_nil]; omega, by simp [mkBY], by simp [mkBY], by simp [mkBY], by simp [mkBY]⟩, rate0⟩
 · exact ⟨by simp [knownK, mkNA], by simp [besC, mkNA, blankC, longN], ⟨by simp only [longN, mkNA, List.length_nil]; omega, fun h => by have := h.2; simp only [mkNA] at this; omega, by simp [mkNA], by simp [mkNA], by simp [mkNA]⟩, rate0⟩
 · exact ⟨by simp [knownK, mkPL], by simp [besC, mkPL, blankC, longN], ⟨by simp only [longN, mkPL, List.length_nil]; omega, by simp [mkPL], by simp [mkPL], by simp [mkPL], by simp [mkPL]⟩, rate0⟩
 · exact ⟨by simp [knownK, mkFI], by simp [besC, mkFI, blankC, longN], ⟨by simp only [longN, mkFI, List.length_nil]; omega, by simp [mkFI], fun h => by have := h.2; simp only [mkFI] at this; omega, by simp [mkFI], by simp [mkFI]⟩, rate0⟩
 · exact ⟨by simp [knownK, mkRE], by simp [besC, mkRE, blankC, longN], ⟨by simp only [longN, mkRE, List.length_nil]; omega, by simp [mkRE], by simp [mkRE], by simp [mkRE], by simp [mkRE]⟩, ⟨hr1, hr2⟩⟩
theorem below_drewN {B : Nat} {a w : World} (h : Below B a w) (n : Nat) : Below B a (w.drewN n) := ⟨h.os, h.tape, h.output, h.size, h.block⟩

set_option maxRecDepth 100000 in
set_option maxHeartbeats 1000000 in
theorem head_1 (cs : List Value) (c : Ctl) (w : World) (h : CtRd w cs c) (ht : Tab w) (hw : 0 < w.heap.size) (hk : c.k = 1) :
 Calls Tryz.prog 52 #[.agg cs.toArray] w fun r w' => r = .returned (.tuple #[.int .i64 205, .int .i64 1]) ∧ Below w.heap.size w w' := by
 have hz := zeroFb
 obtain ⟨hB0, hC0, b0⟩ := box_facts w cs c h
 have HT : Hid ((w.alloc (.cells cs.toArray 58)).rangeAt 0 0 tabC) := Lib.hid (ht.below b0 hw)
 obtain ⟨A, a, B, b', C, c', D, d, E, e, h0, -⟩ := h
 subst h0
 unfold ctlC at hC0 hB0 b0 HT ⊢
 rw [hk] at hC0 hB0 b0 HT ⊢
 clear hk
 have V0 := Lib.hid hB0
 have B0 := Lib.hid b0
 have C0 := Lib.hid hC0
 clear hB0 b0 hC0 ht hw
 go_enter Tryz.func52, Tryz.ntmps52
 go_wp2_with (with_reducible refine wpList_ld rfl 135 (.global 0) rfl 0 0 rfl tabC HT.out rowTab ?_)
 unfold tabC
 go_loopw [7] (fun i wr => ∃ (k : Nat) (z : Int), k ≤ 0 ∧ z = k ∧ i = .int .i64 z ∧ Hid (Below w.heap.size w wr) ∧ Hid (BlkV wr w.heap.size 58 [.int .i64 1, .int .u32 (c.so : Int), .int .u32 (c.me : Int), .int .u64 (c.ti : Int), .int .u32 (c.st : Int), .int .u32 (c.pa : Int), .int .u32 (c.oc : Int), .slice A c.reps.length a, .slice B c.nams.length b', .slice C c.srcs.length c', .slice D c.loss.length d, .slice E c.firs.length e, .int .u64 (c.ra : Int)]) ∧ Hid (CtRd wr [.int .i64 1, .int .u32 (c.so : Int), .int .u32 (c.me : Int), .int .u64 (c.ti : Int), .int .u32 (c.st : Int), .int .u32 (c.pa : Int), .int .u32 (c.oc : Int), .slice A c.reps.length a, .slice B c.nams.length b', .slice C c.srcs.length c', .slice D c.loss.length d, .slice E c.firs.length e, .int .u64 (c.ra : Int)] c)) (fun i _ => 4 - (intOf i).toNat)
 case atStart => exact ⟨0, 0, by omega, rfl, rfl, B0, V0, C0⟩
 case round =>
  obtain ⟨k, z, hk, hzk, rfl, HB, HV, HC⟩ := hrel
  have hlt := HV.out.lt
  have kx : wr.cell? ⟨w.heap.size, 0, none⟩ = some (.int .i64 1) := (HV.out.cell 0).trans rfl
  by_cases hk0 : k = 0
  · obtain rfl : z = 0 := by omega
    clear hzk hk0 hk
    have hix := idxFb0
    go_wp2
    go_quiet (fail)
    go_wp2
    go_ret2
    exact ⟨rfl, below_drewN (HB.out.alloc HB.out.size _) _⟩
  exact absurd hk (by omega)

set_option maxRecDepth 100000 in
set_option maxHeartbeats 1000000 in
theorem head_2 (cs : List Value) (c : Ctl) (w : World) (h : CtRd w cs c) (ht : Tab w) (hw : 0 < w.heap.size) (hk : c.k = 2) :
 Calls Tryz.prog 52 #[.agg cs.toArray] w fun r w' => r = .returned (.tuple #[.int .i64 206, .int .i64 1]) ∧ Below w.heap.size w w' := by
 have hz := zeroFb
 obtain ⟨hB0, hC0, b0⟩ := box_facts w cs c h
 have HT : Hid ((w.alloc (.cells cs.toArray 58)).rangeAt 0 0 tabC) := Lib.hid (ht.below b0 hw)
 obtain ⟨A, a, B, b', C, c', D, d, E, e, h0, -⟩ := h
 subst h0
 unfold ctlC at hC0 hB0 b0 HT ⊢
 rw [hk] at hC0 hB0 b0 HT ⊢
 clear hk
 have V0 := Lib.hid hB0
 have B0 := Lib.hid b0
 have C0 := Lib.hid hC0
 clear hB0 b0 hC0 ht hw
 go_enter Tryz.func52, Tryz.ntmps52
 go_wp2_with (with_reducible refine wpList_ld rfl 135 (.global 0) rfl 0 0 rfl tabC HT.out rowTab ?_)
 unfold tabC
 go_loopw [7] (fun i wr => ∃ (k : Nat) (z : Int), k ≤ 1 ∧ z = k ∧ i = .int .i64 z ∧ Hid (Below w.heap.size w wr) ∧ Hid (BlkV wr w.heap.size 58 [.int .i64 2, .int .u32 (c.so : Int), .int .u32 (c.me : Int), .int .u64 (c.ti : Int), .int .u32 (c.st : Int), .int .u32 (c.pa : Int), .int .u32 (c.oc : Int), .slice A c.reps.length a, .slice B c.nams.length b', .slice C c.srcs.length c', .slice D c.loss.length d, .slice E c.firs.length e, .int .u64 (c.ra : Int)]) ∧ Hid (CtRd wr [.int .i64 2, .int .u32 (c.so : Int), .int .u32 (c.me : Int), .int .u64 (c.ti : Int), .int .u32 (c.st : Int), .int .u32 (c.pa : Int), .int .u32 (c.oc : Int), .slice A c.reps.length a, .slice B c.nams.length b', .slice C c.srcs.length c', .slice D c.loss.length d, .slice E c.firs.length e, .int .u64 (c.ra : Int)] c)) (fun i _ => 4 - (intOf i).toNat)
 case atStart => exact ⟨0, 0, by omega, rfl, rfl, B0, V0, C0⟩
 case round =>
  obtain ⟨k, z, hk, hzk, rfl, HB, HV, HC⟩ := hrel
  have hlt := HV.out.lt
  have kx : wr.cell? ⟨w.heap.size, 0, none⟩ = some (.int .i64 2) := (HV.out.cell 0).trans rfl
  by_cases hk0 : k = 0
  · obtain rfl : z = 0 := by omega
    clear hzk hk0 hk
    have hix := idxFb0
    go_wp2
    go_roundw
    case rel => exact ⟨1, 1, by omega, rfl, by go_num, Lib.hid (HB.out.alloc HB.out.size _), Lib.hid (HV.out.below ((Below.refl _ _).alloc (Nat.le_refl _) _) HV.out.lt), Lib.hid (HC.out.below ((Below.refl _ _).alloc (Nat.le_refl _) _))⟩
    case measure => simp [intOf]
  by_cases hk1 : k = 1
  · obtain rfl : z = 1 := by omega
    clear hzk hk1 hk
    have hix := idxFb1
    go_wp2
    go_quiet (fail)
    go_wp2
    go_ret2
    exact ⟨rfl, below_drewN (HB.out.alloc HB.out.size _) _⟩
  exact absurd hk (by omega)

set_option maxRecDepth 100000 in
set_option maxHeartbeats 1000000 in
theorem head_3 (cs : List Value) (c : Ctl) (w : World) (h : CtRd w cs c) (ht : Tab w) (hw : 0 < w.heap.size) (hk : c.k = 3) :
 Calls Tryz.prog 52 #[.agg cs.toArray] w fun r w' => r = .returned (.tuple #[.int .i64 206, .int .i64 4]) ∧ Below w.heap.size w w' := by
 have hz := zeroFb
 obtain ⟨hB0, hC0, b0⟩ := box_facts w cs c h
 have HT : Hid ((w.alloc (.cells cs.toArray 58)).rangeAt 0 0 tabC) := Lib.hid (ht.below b0 hw)
 obtain ⟨A, a, B, b', C, c', D, d, E, e, h0, -⟩ := h
 subst h0
 unfold ctlC at hC0 hB0 b0 HT ⊢
 rw [hk] at hC0 hB0 b0 HT ⊢
 clear hk
 have V0 := Lib.hid hB0
 have B0 := Lib.hid b0
 have C0 := Lib.hid hC0
 clear hB0 b0 hC0 ht hw
 go_enter Tryz.func52, Tryz.ntmps52
 go_wp2_with (with_reducible refine wpList_ld rfl 135 (.global 0) rfl 0 0 rfl tabC HT.out rowTab ?_)
 unfold tabC
 go_loopw [7] (fun i wr => ∃ (k : Nat) (z : Int), k ≤ 2 ∧ z = k ∧ i = .int .i64 z ∧ Hid (Below w.heap.size w wr) ∧ Hid (BlkV wr w.heap.size 58 [.int .i64 3, .int .u32 (c.so : Int), .int .u32 (c.me : Int), .int .u64 (c.ti : Int), .int .u32 (c.st : Int), .int .u32 (c.pa : Int), .int .u32 (c.oc : Int), .slice A c.reps.length a, .slice B c.nams.length b', .slice C c.srcs.length c', .slice D c.loss.length d, .slice E c.firs.length e, .int .u64 (c.ra : Int)]) ∧ Hid (CtRd wr [.int .i64 3, .int .u32 (c.so : Int), .int .u32 (c.me : Int), .int .u64 (c.ti : Int), .int .u32 (c.st : Int), .int .u32 (c.pa : Int), .int .u32 (c.oc : Int), .slice A c.reps.length a, .slice B c.nams.length b', .slice C c.srcs.length c', .slice D c.loss.length d, .slice E c.firs.length e, .int .u64 (c.ra : Int)] c)) (fun i _ => 4 - (intOf i).toNat)
 case atStart => exact ⟨0, 0, by omega, rfl, rfl, B0, V0, C0⟩
 case round =>
  obtain ⟨k, z, hk, hzk, rfl, HB, HV, HC⟩ := hrel
  have hlt := HV.out.lt
  have kx : wr.cell? ⟨w.heap.size, 0, none⟩ = some (.int .i64 3) := (HV.out.cell 0).trans rfl
  by_cases hk0 : k = 0
  · obtain rfl : z = 0 := by omega
    clear hzk hk0 hk
    have hix := idxFb0
    go_wp2
    go_roundw
    case rel => exact ⟨1, 1, by omega, rfl, by go_num, Lib.hid (HB.out.alloc HB.out.size _), Lib.hid (HV.out.below ((Below.refl _ _).alloc (Nat.le_refl _) _) HV.out.lt), Lib.hid (HC.out.below ((Below.refl _ _).alloc (Nat.le_refl _) _))⟩
    case measure => simp [intOf]
  by_cases hk1 : k = 1
  · obtain rfl : z = 1 := by omega
    clear hzk hk1 hk
    have hix := idxFb1
    go_wp2
    go_roundw
    case rel => exact ⟨2, 2, by omega, rfl, by go_num, Lib.hid (HB.out.alloc HB.out.size _), Lib.hid (HV.out.below ((Below.refl _ _).alloc (Nat.le_refl _) _) HV.out.lt), Lib.hid (HC.out.below ((Below.refl _ _).alloc (Nat.le_refl _) _))⟩
    case measure => simp [intOf]
  by_cases hk2 : k = 2
  · obtain rfl : z = 2 := by omega
    clear hzk hk2 hk
    have hix := idxFb2
    go_wp2
    go_quiet (fail)
    go_wp2
    go_ret2
    exact ⟨rfl, below_drewN (HB.out.alloc HB.out.size _) _⟩
  exact absurd hk (by omega)

set_option maxRecDepth 100000 in
set_option maxHeartbeats 1000000 in
theorem head_4 (cs : List Value) (c : Ctl) (w : World) (h : CtRd w cs c) (ht : Tab w) (hw : 0 < w.heap.size) (hk : c.k = 4) :
 Calls Tryz.prog 52 #[.agg cs.toArray] w fun r w' => r = .returned (.tuple #[.int .i64 206, .int .i64 15]) ∧ Below w.heap.size w w' := by
 have hz := zeroFb
 obtain ⟨hB0, hC0, b0⟩ := box_facts w cs c h
 have HT : Hid ((w.alloc (.cells cs.toArray 58)).rangeAt 0 0 tabC) := Lib.hid (ht.below b0 hw)
 obtain ⟨A, a, B, b', C, c', D, d, E, e, h0, -⟩ := h
 subst h0
 unfold ctlC at hC0 hB0 b0 HT ⊢
 rw [hk] at hC0 hB0 b0 HT ⊢
 clear hk
 have V0 := Lib.hid hB0
 have B0 := Lib.hid b0
 have C0 := Lib.hid hC0
 clear hB0 b0 hC0 ht hw
 go_enter Tryz.func52, Tryz.ntmps52
 go_wp2_with (with_reducible refine wpList_ld rfl 135 (.global 0) rfl 0 0 rfl tabC HT.out rowTab ?_)
 unfold tabC
 go_loopw [7] (fun i wr => ∃ (k : Nat) (z : Int), k ≤ 3 ∧ z = k ∧ i = .int .i64 z ∧ Hid (Below w.heap.size w wr) ∧ Hid (BlkV wr w.heap.size 58 [.int .i64 4, .int .u32 (c.so : Int), .int .u32 (c.me : Int), .int .u64 (c.ti : Int), .int .u32 (c.st : Int), .int .u32 (c.pa : Int), .int .u32 (c.oc : Int), .slice A c.reps.length a, .slice B c.nams.length b', .slice C c.srcs.length c', .slice D c.loss.length d, .slice E c.firs.length e, .int .u64 (c.ra : Int)]) ∧ Hid (CtRd wr [.int .i64 4, .int .u32 (c.so : Int), .int .u32 (c.me : Int), .int .u64 (c.ti : Int), .int .u32 (c.st : Int), .int .u32 (c.pa : Int), .int .u32 (c.oc : Int), .slice A c.reps.length a, .slice B c.nams.length b', .slice C c.srcs.length c', .slice D c.loss.length d, .slice E c.firs.length e, .int .u64 (c.ra : Int)] c)) (fun i _ => 4 - (intOf i).toNat)
 case atStart => exact ⟨0, 0, by omega, rfl, rfl, B0, V0, C0⟩
 case round =>
  obtain ⟨k, z, hk, hzk, rfl, HB, HV, HC⟩ := hrel
  have hlt := HV.out.lt
  have kx : wr.cell? ⟨w.heap.size, 0, none⟩ = some (.int .i64 4) := (HV.out.cell 0).trans rfl
  by_cases hk0 : k = 0
  · obtain rfl : z = 0 := by omega
    clear hzk hk0 hk
    have hix := idxFb0
    go_wp2
    go_roundw
    case rel => exact ⟨1, 1, by omega, rfl, by go_num, Lib.hid (HB.out.alloc HB.out.size _), Lib.hid (HV.out.below ((Below.refl _ _).alloc (Nat.le_refl _) _) HV.out.lt), Lib.hid (HC.out.below ((Below.refl _ _).alloc (Nat.le_refl _) _))⟩
    case measure => simp [intOf]
  by_cases hk1 : k = 1
  · obtain rfl : z = 1 := by omega
    clear hzk hk1 hk
    have hix := idxFb1
    go_wp2
    go_roundw
    case rel => exact ⟨2, 2, by omega, rfl, by go_num, Lib.hid (HB.out.alloc HB.out.size _), Lib.hid (HV.out.below ((Below.refl _ _).alloc (Nat.le_refl _) _) HV.out.lt), Lib.hid (HC.out.below ((Below.refl _ _).alloc (Nat.le_refl _) _))⟩
    case measure => simp [intOf]
  by_cases hk2 : k = 2
  · obtain rfl : z = 2 := by omega
    clear hzk hk2 hk
    have hix := idxFb2
    go_wp2
    go_roundw
    case rel => exact ⟨3, 3, by omega, rfl, by go_num, Lib.hid (HB.out.alloc HB.out.size _), Lib.hid (HV.out.below ((Below.refl _ _).alloc (Nat.le_refl _) _) HV.out.lt), Lib.hid (HC.out.below ((Below.refl _ _).alloc (Nat.le_refl _) _))⟩
    case measure => simp [intOf]
  by_cases hk3 : k = 3
  · obtain rfl : z = 3 := by omega
    clear hzk hk3 hk
    have hix := idxFb3
    go_wp2
    go_quiet (fail)
    go_wp2
    go_ret2
    exact ⟨rfl, below_drewN (HB.out.alloc HB.out.size _) _⟩
  exact absurd hk (by omega)
def HeadS (w : World) (cs : List Value) (c : Ctl) (wz : World) : Prop := Below w.heap.size w wz ∧ BlkV wz w.heap.size 58 cs ∧ CtRd wz cs c
theorem HeadS.drew {w : World} {cs : List Value} {c : Ctl} {wz : World} (h : HeadS w cs c wz) : HeadS w cs c wz.drew := ⟨h.1.drew, h.2.1, h.2.2.below ((Below.refl _ _).drew)⟩
theorem HeadS.on {w : World} {cs : List Value} {c : Ctl} {wz wy : World} (h : HeadS w cs c wz) (hb : Below wz.heap.size wz wy) : HeadS w cs c wy := ⟨h.1.trans (hb.mono h.1.size), h.2.1.below hb h.2.1.lt, h.2.2.below hb⟩

set_option maxRecDepth 100000 in
set_option maxHeartbeats 1000000 in
theorem head_big (cs : List Value) (c : Ctl) (w : World) (h : CtRd w cs c) (ht : Tab w) (hw : 0 < w.heap.size) (K : Int) (hK : K = c.k) (n : Nat) (hn : n = longN c) (q1 : ¬ K = 1) (q2 : ¬ K = 2) (q3 : ¬ K = 3) (q4 : ¬ K = 4) :
 Calls Tryz.prog 52 #[.agg cs.toArray] w fun r w' => r = .returned (.tuple #[.int .i64 K, .int .i64 (n : Int)]) ∧ Below w.heap.size w w' := by
 have hz := zeroFb
 obtain ⟨hB0, hC0, b0⟩ := box_facts w cs c h
 have HT : Hid ((w.alloc (.cells cs.toArray 58)).rangeAt 0 0 tabC) := Lib.hid (ht.below b0 hw)
 obtain ⟨A, a, B, b', C, c', D, d, E, e, h0, -⟩ := h
 subst h0
 unfold ctlC at hC0 hB0 b0 HT ⊢
 have HL : Hid (∀ W, CtRd W [.int .i64 K, .int .u32 (c.so : Int), .int .u32 (c.me : Int), .int .u64 (c.ti : Int), .int .u32 (c.st : Int), .int .u32 (c.pa : Int), .int .u32 (c.oc : Int), .slice A c.reps.length a, .slice B c.nams.length b', .slice C c.srcs.length c', .slice D c.loss.length d, .slice E c.firs.length e, .int .u64 (c.ra : Int)] c → Calls Tryz.prog 70 #[.agg #[.int .i64 K, .int .u32 (c.so : Int), .int .u32 (c.me : Int), .int .u64 (c.ti : Int), .int .u32 (c.st : Int), .int .u32 (c.pa : Int), .int .u32 (c.oc : Int), .slice A c.reps.length a, .slice B c.nams.length b', .slice C c.srcs.length c', .slice D c.loss.length d, .slice E c.firs.length e, .int .u64 (c.ra : Int)]] W fun r w' => r = .returned (.int .i64 (n : Int)) ∧ Below W.heap.size W w') := Lib.hid (by subst hK; subst hn; exact fun W hW => longest_any _ c W hW)
 rw [← hK] at hC0 hB0 b0 HT ⊢
 clear hK hn
 have z1 : ((1 : Int) == K) = false := by simp; omega
 have z2 : ((2 : Int) == K) = false := by simp; omega
 have z3 : ((3 : Int) == K) = false := by simp; omega
 have z4 : ((4 : Int) == K) = false := by simp; omega
 clear q1 q2 q3 q4
 have V0 := Lib.hid hB0
 have B0 := Lib.hid b0
 have C0 := Lib.hid hC0
 clear hB0 b0 hC0 ht hw
 go_enter Tryz.func52, Tryz.ntmps52
 go_wp2_with (with_reducible refine wpList_ld rfl 135 (.global 0) rfl 0 0 rfl tabC HT.out rowTab ?_)
 unfold tabC
 go_loopw [7] (fun i wr => ∃ (k : Nat) (z : Int), k ≤ 4 ∧ z = k ∧ i = .int .i64 z ∧ Hid (Below w.heap.size w wr) ∧ Hid (BlkV wr w.heap.size 58 [.int .i64 K, .int .u32 (c.so : Int), .int .u32 (c.me : Int), .int .u64 (c.ti : Int), .int .u32 (c.st : Int), .int .u32 (c.pa : Int), .int .u32 (c.oc : Int), .slice A c.reps.length a, .slice B c.nams.length b', .slice C c.srcs.length c', .slice D c.loss.length d, .slice E c.firs.length e, .int .u64 (c.ra : Int)]) ∧ Hid (CtRd wr [.int .i64 K, .int .u32 (c.so : Int), .int .u32 (c.me : Int), .int .u64 (c.ti : Int), .int .u32 (c.st : Int), .int .u32 (c.pa : Int), .int .u32 (c.oc : Int), .slice A c.reps.length a, .slice B c.nams.length b', .slice C c.srcs.length c', .slice D c.loss.length d, .slice E c.firs.length e, .int .u64 (c.ra : Int)] c)) (fun i _ => 4 - (intOf i).toNat)
 case atStart => exact ⟨0, 0, by omega, rfl, rfl, B0, V0, C0⟩
 case round =>
  obtain ⟨k, z, hk, hzk, rfl, HB, HV, HC⟩ := hrel
  have hlt := HV.out.lt
  have kx : wr.cell? ⟨w.heap.size, 0, none⟩ = some (.int .i64 K) := (HV.out.cell 0).trans rfl
  by_cases hk0 : k = 0
  · obtain rfl : z = 0 := by omega
    clear hzk hk0 hk
    have hix := idxFb0
    go_wp2
    go_roundw
    case rel => exact ⟨1, 1, by omega, rfl, by go_num, Lib.hid (HB.out.alloc HB.out.size _), Lib.hid (HV.out.below ((Below.refl _ _).alloc (Nat.le_refl _) _) HV.out.lt), Lib.hid (HC.out.below ((Below.refl _ _).alloc (Nat.le_refl _) _))⟩
    case measure => simp [intOf]
  by_cases hk1 : k = 1
  · obtain rfl : z = 1 := by omega
    clear hzk hk1 hk
    have hix := idxFb1
    go_wp2
    go_roundw
    case rel => exact ⟨2, 2, by omega, rfl, by go_num, Lib.hid (HB.out.alloc HB.out.size _), Lib.hid (HV.out.below ((Below.refl _ _).alloc (Nat.le_refl _) _) HV.out.lt), Lib.hid (HC.out.below ((Below.refl _ _).alloc (Nat.le_refl _) _))⟩
    case measure => simp [intOf]
  by_cases hk2 : k = 2
  · obtain rfl : z = 2 := by omega
    clear hzk hk2 hk
    have hix := idxFb2
    go_wp2
    go_roundw
    case rel => exact ⟨3, 3, by omega, rfl, by go_num, Lib.hid (HB.out.alloc HB.out.size _), Lib.hid (HV.out.below ((Below.refl _ _).alloc (Nat.le_refl _) _) HV.out.lt), Lib.hid (HC.out.below ((Below.refl _ _).alloc (Nat.le_refl _) _))⟩
    case measure => simp [intOf]
  by_cases hk3 : k = 3
  · obtain rfl : z = 3 := by omega
    clear hzk hk3 hk
    have hix := idxFb3
    go_wp2
    go_roundw
    case rel => exact ⟨4, 4, by omega, rfl, by go_num, Lib.hid (HB.out.alloc HB.out.size _), Lib.hid (HV.out.below ((Below.refl _ _).alloc (Nat.le_refl _) _) HV.out.lt), Lib.hid (HC.out.below ((Below.refl _ _).alloc (Nat.le_refl _) _))⟩
    case measure => simp [intOf]
  obtain rfl : k = 4 := by omega
  obtain rfl : z = 4 := by omega
  clear hzk hk hk0 hk1 hk2 hk3
  have SD := Lib.hid (HeadS.drew (⟨HB.out, HV.out, HC.out⟩ : HeadS w [.int .i64 K, .int .u32 (c.so : Int), .int .u32 (c.me : Int), .int .u64 (c.ti : Int), .int .u32 (c.st : Int), .int .u32 (c.pa : Int), .int .u32 (c.oc : Int), .slice A c.reps.length a, .slice B c.nams.length b', .slice C c.srcs.length c', .slice D c.loss.length d, .slice E c.firs.length e, .int .u64 (c.ra : Int)] c wr))
  clear HB HV HC kx hlt
  go_wp2
  refine wp_region_noPanic ?_
  refine wp_region_held (S := HeadS w [.int .i64 K, .int .u32 (c.so : Int), .int .u32 (c.me : Int), .int .u64 (c.ti : Int), .int .u32 (c.st : Int), .int .u32 (c.pa : Int), .int .u32 (c.oc : Int), .slice A c.reps.length a, .slice B c.nams.length b', .slice C c.srcs.length c', .slice D c.loss.length d, .slice E c.firs.length e, .int .u64 (c.ra : Int)] c) (by kernel_rfl) ?_
  change wpAnyH _ _ _ _ _ _ _ _ (World.drew _)
  generalize wr.drew = w0 at SD ⊢
  refine wpAnyH_take (i := 0) (v := ?_) rfl (by kernel_rfl) (by kernel_rfl) (by kernel_rfl) (fun _ _ _ h => h) (Or.inl ⟨by rfl, ?_⟩) SD.out ?_
  case refine_2 => (intro wz hz; go_simp; with_reducible rfl)
  simp only [Act.put, xgT, xgZ, xsT, xsS, xsZ]
  refine wpAnyH_take (i := 1) (v := ?_) rfl (by kernel_rfl) (by kernel_rfl) (by kernel_rfl) (fun _ _ _ h => h) (Or.inl ⟨by rfl, ?_⟩) SD.out ?_
  case refine_2 => (intro wz hz; have k0 : wz.cell? ⟨w.heap.size, 0, none⟩ = some (.int .i64 K) := (hz.2.1.cell 0).trans rfl; go_simp; with_reducible rfl)
  simp only [Act.put, xgT, xgS, xgZ, xsT, xsS, xsZ]
  refine wpAnyH_take (i := 2) (v := .agg #[.int .i64 K, .int .u32 (c.so : Int), .int .u32 (c.me : Int), .int .u64 (c.ti : Int), .int .u32 (c.st : Int), .int .u32 (c.pa : Int), .int .u32 (c.oc : Int), .slice A c.reps.length a, .slice B c.nams.length b', .slice C c.srcs.length c', .slice D c.loss.length d, .slice E c.firs.length e, .int .u64 (c.ra : Int)]) rfl (by kernel_rfl) (by kernel_rfl) (by kernel_rfl) (fun _ _ _ h => h) (Or.inl ⟨by rfl, fun wz hz => ?_⟩) SD.out ?_
  · exact run_ld 58 (.tmp 1) rfl w.heap.size 0 rfl [.int .i64 K, .int .u32 (c.so : Int), .int .u32 (c.me : Int), .int .u64 (c.ti : Int), .int .u32 (c.st : Int), .int .u32 (c.pa : Int), .int .u32 (c.oc : Int), .slice A c.reps.length a, .slice B c.nams.length b', .slice C c.srcs.length c', .slice D c.loss.length d, .slice E c.firs.length e, .int .u64 (c.ra : Int)] (hz.2.1.range 0 _ (fun i _ => by rw [Nat.zero_add])) (rowCtl rfl)
  simp only [Act.put, xgT, xgS, xgZ, xsT, xsS, xsZ]
  refine anyH_one (i := 3) (by kernel_rfl) rfl rfl (fun H hH => ?_)
  simp only [xgT, xgS, xgZ]
  go_simp
  refine (Hid.out HL _ SD.out.2.2).mono ?_
  rintro e w1 ⟨rfl, hb⟩
  have S1 := Lib.hid (SD.out.on hb)
  clear hb
  refine hH _ _ S1.out ?_
  clear hH H
  refine wpAnyH_take (i := 4) (v := ?_) rfl (by kernel_rfl) (by kernel_rfl) (by kernel_rfl) (fun _ _ _ h => h) (Or.inl ⟨by rfl, ?_⟩) S1.out ?_
  case refine_2 => (intro wz hz; go_simp; with_reducible rfl)
  simp only [Act.put, xgT, xgS, xgZ, xsT, xsS, xsZ]
  refine wpAnyH_take (i := 5) (v := ?_) rfl (by kernel_rfl) (by kernel_rfl) (by kernel_rfl) (fun _ _ _ h => h) (Or.inl ⟨by rfl, ?_⟩) S1.out ?_
  case refine_2 => (intro wz hz; go_simp; with_reducible rfl)
  simp only [Act.put, xgT, xgS, xgZ, xsT, xsS, xsZ]
  refine wpAnyH_done (by kernel_rfl) ?_ _
  refine NoPanic.normal ?_
  go_wp2
  go_ret2
  exact ⟨rfl, S1.out.1⟩
end Go.Proofs.YtheefckohnaceaaGreatDoor
