/- Contracts of package stun: Read, where bytes have a message's head. No statement is proved here. -/
import Derived.Test.YthoiebjndchobaaStunP4
namespace Go.Proofs.Ythoiebjndchobaa
open Go.RowKit
set_option linter.unusedVariables false
attribute [local go_sem] Oper.semAt_some

theorem RB.turn {w wz wy : World} {B : Nat} (h : RB w wz) (hT : Turn B wz wy) (hB : w.heap.size ≤ B) : RB w wy := ⟨h.1.trans (hT.below hB h.1.size), h.2.1.turn hT, h.2.2.turn hT⟩
theorem AvO.turn {w w' : World} {b n c B : Nat} {A : Option Addr} {L : List (Nat × List UInt8)} (h : AvO w b A n c L) (hT : Turn B w w') : AvO w' b A n c L := by
  obtain ⟨rows, h1, h2, h3, h4⟩ := h
  refine ⟨rows, h1, own_turn h2 hT, h3, fun i r x hi hx => ?_⟩
  obtain ⟨D, d, h5, h6⟩ := h4 i r x hi hx
  exact ⟨D, d, h5, own_turn h6 hT⟩
/-- Between two rounds of Read. -/
def IR (w : World) (pre : List (Option (Nat × List UInt8))) (W : World) : Prop :=
  ∃ (L : List (Nat × List UInt8)) (A2 : Option Addr) (k c2 : Nat), pre = L.map some ∧ k = L.length ∧ k ≤ 16 ∧ RB w W ∧ BlkV W (w.heap.size + 1 + 1) 26 [.slice A2 k c2] ∧ AvO W w.heap.size A2 k c2 L
/-- A round of Read has left. -/
def IxR (bs : List UInt8) (w : World) (c : Code) (pre : List (Option (Nat × List UInt8))) (W : World) : Prop :=
  c = .ret ∧ Below w.heap.size w W ∧ BlkV W w.heap.size 28 zStn ∧ W.cell? ⟨w.heap.size + 1, 0, none⟩ = some (.int .i64 3) ∧ ∀ s, ¬ isMsg bs s
theorem IR.calm (w : World) (B : Nat) (hB : w.heap.size ≤ B) (pre : List (Option (Nat × List UInt8))) : Calm B (IR w pre) := fun W W2 ⟨L, A2, k, c2, h1, h2, h3, h4, h5, h6⟩ hT => ⟨L, A2, k, c2, h1, h2, h3, h4.turn hT hB, h5.turn hT, h6.turn hT⟩
theorem IxR.calm (bs : List UInt8) (w : World) (B : Nat) (hB : w.heap.size ≤ B) (c : Code) (pre : List (Option (Nat × List UInt8))) : Calm B (IxR bs w c pre) := fun W W2 ⟨h1, h2, h3, h4, h5⟩ hT => ⟨h1, h2.trans (hT.below hB h2.size), h3.turn hT, hT.cell h4, h5⟩
/-- A round's slots. -/
def frR (w : World) (A A2 : Option Addr) (n c : Nat) (v5 v6 v27 v28 : Value) : Array Value :=
  #[.slice A n c, undef, .pointer (some ⟨w.heap.size, 0, none⟩), .pointer (some ⟨w.heap.size + 1, 0, none⟩), .pointer (some ⟨w.heap.size + 1 + 1, 0, none⟩), v5, v6, .slice A n c,
    .int .i64 (n : Int), .bool false, undef, .slice A n c, .bool true, .bool false, .bool false, .slice A n c, .int .u64 ((n : Int) - 20), .slice A n c, .int .i64 (n : Int), .int .i64 ((n : Int) - 20), .int .u64 ((n : Int) - 20), .bool false,
    .bool false, undef, .slice A n c, .slice A2 (n - 20) (c - 20), .func (.func 27) #[] #[.pointer (some ⟨w.heap.size + 1 + 1 + 1, 0, none⟩)], v27, v28,
    undef, undef, undef, undef, undef, undef, undef, undef, undef, undef, undef, undef, undef, undef, undef, undef, undef, undef, undef, undef, undef]
/-- What binds an element leaves. -/
def AxR (w : World) (A A2 : Option Addr) (n c : Nat) (x : Option (Nat × List UInt8)) (a : Act) (W : World) : Prop :=
  ∃ (g : Nat) (v27 : Value), (∀ y, x = some y → ∃ D d, a = { tmps := frR w A A2 n c (.pointer (some ⟨g, 0, none⟩)) (.bool true) v27 (.bool true), defers := [] } ∧ BlkV W g 47 [.int .u16 (y.1 : Int), .slice D y.2.length d] ∧ W.ownsRow w.heap.size 5 1 (.slice D y.2.length d) y.2.length (cells y.2)) ∧
    (x = none → a = { tmps := frR w A A2 n c (.pointer (some ⟨g, 0, none⟩)) (.bool false) v27 (.bool false), defers := [] })
theorem AxR.calm (w : World) (A A2 : Option Addr) (n c : Nat) (x : Option (Nat × List UInt8)) (a : Act) (B : Nat) : Calm B (AxR w A A2 n c x a) := fun W W2 ⟨g, v27, h1, h2⟩ hT => ⟨g, v27, fun y hy => by
  obtain ⟨D, d, k1, k2, k3⟩ := h1 y hy
  exact ⟨D, d, k1, k2.turn hT, own_turn k3 hT⟩, h2⟩
abbrev rlW (w : World) (A2 : Option Addr) (n c : Nat) : World := ((rbW w).alloc (.cells #[.slice none 0 0] 26)).alloc (.cells #[.slice A2 (n - 20) (c - 20)] 22)
theorem rl_size (w : World) (A2 : Option Addr) (n c : Nat) : (rlW w A2 n c).heap.size = w.heap.size + 4 := by simp
theorem rl_below (w : World) (A2 : Option Addr) (n c : Nat) : Below w.heap.size w (rlW w A2 n c) := ((RB.start w).1.alloc (by simp; omega) _).alloc (by simp; omega) _
theorem IR.start (w : World) (A2 : Option Addr) (n c : Nat) : IR w [] (rlW w A2 n c) :=
  ⟨[], none, 0, 0, rfl, rfl, by omega, ((RB.start w).on ((Below.refl _ _).alloc (Nat.le_refl _) _)).on ((Below.refl _ _).alloc (Nat.le_refl _) _), (BlkV.new_at _ _ _ _ _ (by simp) rfl).alloc _, AvO.nil _ _⟩
theorem AvO.other {w w' : World} {b n c : Nat} {A : Option Addr} {L : List (Nat × List UInt8)} (h : AvO w b A n c L) {row : Option Nat} (hg : w.grownBy w' row) (hr : ∀ p, row = some p → ∃ (cur : Array Value) (e' : TypeId) (fz : Nat × Nat), w.heap[p]? = some (.cells cur e' fz) ∧ 47 ≠ e' ∧ 5 ≠ e') : AvO w' b A n c L := by
  obtain ⟨rows, h1, h2, h3, h4⟩ := h
  refine ⟨rows, h1, own_thN h2 hg (fun p hp => ?_), h3, fun i r x hi hx => ?_⟩
  · obtain ⟨cur, e', fz, k1, k2, _⟩ := hr p hp
    exact .inr ⟨cur, e', fz, k1, k2⟩
  · obtain ⟨D, d, h5, h6⟩ := h4 i r x hi hx
    refine ⟨D, d, h5, own_thN h6 hg (fun p hp => ?_)⟩
    obtain ⟨cur, e', fz, k1, _, k2⟩ := hr p hp
    exact .inr ⟨cur, e', fz, k1, k2⟩
/-- A struct of three fields is built in a region that draws its order and only reads so far. -/
theorem wpStill_built3 {P : Program} {w : World} {ops : Array Oper} {rest : List Oper} {op : Oper} {a : Act} {Q : Act → Prop} (hgd : op.guard = none) (t : TypeId) (x y z : Operand) (ho : op.op = .build t #[(0, x), (1, y), (2, z)]) (u1 u2 u3 v : Value) (hx : a.eval x = u1) (hy : a.eval y = u2) (hz : a.eval z = u3)
    (hr : (Instr.build t #[(0, u1), (1, u2), (2, u3)]).run P w = .ok v w) (h : wpStill P ops w Q rest (a.put op.dst v)) : wpStill P ops w Q (op :: rest) a := by
  refine wpStill_step fun K hK => ?_
  rw [if_pos (by simp [Region.wanted, hgd])]
  unfold Oper.still execOp
  simp only [ho, List.map_toArray, List.map_cons, List.map_nil, hx, hy, hz, Sem.run_bind, hr, Result.andThen_ok, Sem.run_pure, Oper.stillUpon_value]
  exact hK _ h
theorem built_s (w : World) (ty : Nat) (tx : List UInt8) (A : Option Addr) (k c : Nat) (h : tx.length = 12) : (Instr.build 28 #[(0, .int .u16 (ty : Int)), (1, .agg (cells tx).toArray), (2, .slice A k c)]).run Try.prog w = .ok (.agg (sC ty tx (.slice A k c)).toArray) w := by
  obtain ⟨a, b, c, d, e, f, g, i, j, k, l, m, rfl⟩ := list12 h
  kernel_rfl
/-- Behind an element's append and the store of the longer row. -/
theorem round_app {w W w5 : World} {A4 A5 D : Option Addr} {k c4 c5 d : Nat} {L : List (Nat × List UInt8)} {y : Nat × List UInt8} {rows : List (List Value)} (hRB : RB w W) (hB4 : BlkV W (w.heap.size + 1 + 1) 26 [.slice A4 k c4]) (hAv : AvO W w.heap.size A4 k c4 L)
    (hown : W.ownsRow w.heap.size 5 1 (.slice D y.2.length d) y.2.length (cells y.2)) (h0 : rows.length = L.length) (hr : W.ownsRow w.heap.size 47 2 (.slice A4 k c4) k rows.flatten)
    (h4 : ∀ (i : Nat) (r : List Value) (x : Nat × List UInt8), rows[i]? = some r → L[i]? = some x → ∃ (D : Option Addr) (c : Nat), r = [.int .u16 (x.1 : Int), .slice D x.2.length c] ∧ W.ownsRow w.heap.size 5 1 (.slice D x.2.length c) x.2.length (cells x.2))
    (h5 : w5.ownsRow w.heap.size 47 2 (.slice A5 (k + 1) c5) (k + 1) (rows.flatten ++ [.int .u16 (y.1 : Int), .slice D y.2.length d])) (hg5 : (W.alloc (.cells #[.int .u16 (y.1 : Int), .slice D y.2.length d] 47)).grownBy w5 (Value.slice A4 k c4).ownBlock) :
    BlkV w5 (w.heap.size + 1 + 1) 26 [.slice A4 k c4] ∧ KeepsOthers W (w5.setCell ⟨w.heap.size + 1 + 1, 0, none⟩ (.slice A5 (k + 1) c5)) ∧ Below w.heap.size W (w5.setCell ⟨w.heap.size + 1 + 1, 0, none⟩ (.slice A5 (k + 1) c5)) ∧ RB w (w5.setCell ⟨w.heap.size + 1 + 1, 0, none⟩ (.slice A5 (k + 1) c5)) ∧
      BlkV (w5.setCell ⟨w.heap.size + 1 + 1, 0, none⟩ (.slice A5 (k + 1) c5)) (w.heap.size + 1 + 1) 26 [.slice A5 (k + 1) c5] ∧ AvO (w5.setCell ⟨w.heap.size + 1 + 1, 0, none⟩ (.slice A5 (k + 1) c5)) w.heap.size A5 (k + 1) c5 (L ++ [y]) := by
  have ha : ∀ {s m : Nat} {e : TypeId} {v : Value} {xs : List Value}, W.ownsRow w.heap.size e s v m xs → (W.alloc (.cells #[.int .u16 (y.1 : Int), .slice D y.2.length d] 47)).ownsRow w.heap.size e s v m xs := fun h => own_thN h (grown_alloc _ _ none) (fun p hp => (nomatch hp))
  have hb1 : Below W.heap.size W (W.alloc (.cells #[.int .u16 (y.1 : Int), .slice D y.2.length d] 47)) := (Below.refl _ _).alloc (Nat.le_refl _) _
  obtain ⟨W1, hW1⟩ : ∃ W1, W1 = W.alloc (.cells #[.int .u16 (y.1 : Int), .slice D y.2.length d] 47) := ⟨_, rfl⟩
  have hks : KeepsOthers W W1 := by rw [hW1]; exact KeepsOthers.alloc _ _
  rw [← hW1] at ha hb1 hg5
  have hr1 := ha hr
  have hn1 := fun {p : Nat} {e : TypeId} {cs : List Value} (hB : BlkV W1 p e cs) (hne : 47 ≠ e) => own_ne hr1 hB hne
  have hB41 := hB4.below hb1 hB4.lt
  have hB45 := hB41.grown hg5 (fun e => hn1 hB41 (by decide) e.symm)
  have hR1 := hRB.on hb1
  have hlt : ∀ p, (Value.slice A4 k c4).ownBlock = some p → w.heap.size ≤ p := fun p hp => (hr.lt p hp).1
  have ho := Only.set w5 (w.heap.size + 1 + 1) 0 (.slice A5 (k + 1) c5)
  have hbW5 : Below w.heap.size W w5 := (hb1.mono hRB.1.size).trans (below_of_grown hg5 (Nat.le_trans hRB.1.size hb1.size) hlt)
  refine ⟨hB45, (hks.trans (keeps_own hr1 hg5)).trans (KeepsOthers.setCell _ _ _), hbW5.setCell (by simp; omega) _, ⟨hRB.1.trans (hbW5.setCell (by simp; omega) _), ?_, ?_⟩, hB45.set_ 0 _, ?_⟩
  · exact (hR1.2.1.grown hg5 (fun e => hn1 hR1.2.1 (by decide) e.symm)).only ho (by omega)
  · exact (hR1.2.2.grown hg5 (fun e => hn1 hR1.2.2 (by decide) e.symm)).only ho (by omega)
  · refine ((hAv.below hb1).more y D d (ha hown) hg5 rows hr1 h0 (fun i r x hi hx => ?_) h5 rfl).other ho.grown (fun p hp => ?_)
    · obtain ⟨D2, d2, e1, e2⟩ := h4 i r x hi hx
      exact ⟨D2, d2, e1, ha e2⟩
    · injection hp with hp
      subst hp
      exact ⟨_, 26, _, hB45, by decide, by decide⟩
theorem zeroAttrs (w : World) : (zeroValue 26).run Try.prog w = .ok (.slice none 0 0) w := by kernel_rfl
set_option maxRecDepth 100000 in
set_option maxHeartbeats 2000000 in
theorem read_loop (A : Option Addr) (n c : Nat) (bs : List UInt8) (w : World) (hr : RdS w A n c bs) (h20 : 20 ≤ n) (hn : n ≤ 100000) (hi : isB bs) (hnum : numb ((bs.drop 2).take 2) = n - 20) :
    Calls Try.prog 7 #[.slice A n c] w (R12 bs w) := by
  have hz := zeroStn
  have hz2 := zeroAttr
  have hl := hr.len
  have hle := hr.le
  have hmx := hr.max
  have HS := Lib.hid (RB.start w)
  have hrr := hr.below HS.out.1
  have h20i : ¬ (n : Int) < 20 := by omega
  have HN : Hid (Calls Try.prog 17 #[.slice A n c, .int .i64 2, .int .i64 2] (rbW w) fun e w' => e = .returned (.int .u64 ((n : Int) - 20)) ∧ rbW w = w') := Lib.hid (by
    have := number_any A n c bs 2 2 2 2 rfl rfl _ hrr (by omega) (by omega) (by omega)
    rw [hnum, show ((n - 20 : Nat) : Int) = (n : Int) - 20 by omega] at this
    exact this)
  have HI := Lib.hid (is_any A n c bs (rbW w) hrr true (by simp [hi]))
  have ew : IntKind.u64.wrap ((n : Int) - 20) = (n : Int) - 20 := by rw [IntKind.wrap_u64]; omega
  obtain ⟨A2, hs2, hs2', hr2⟩ := run_lo A n c 20 20 rfl h20 hle hmx
  have HR := Lib.hid hr
  have HR2 := Lib.hid hr2
  have HI0 := Lib.hid hi
  have HNM := Lib.hid hnum
  clear hr hrr hr2 hi hnum
  refine (callsIn_wide (n := 2)).1 ?_
  refine callsIn_of_wp_marks Try.func7 rfl trivial ?_ rfl
  simp only [Try.ntmps7, List.size_toArray, List.length_cons, List.length_nil, Nat.reduceAdd, Nat.reduceSub, Array.replicate_succ, Array.replicate_zero, List.push_toArray, List.append_toArray, List.nil_append, List.cons_append]
  refine wpIn_wide.2 ?_
  go_wp2_with (first
    | (go_at_call 10; ((with_reducible refine (Hid.out HI).mono ?_); rintro e w' ⟨rfl, rfl⟩))
    | (go_at_call 17; ((with_reducible refine (Hid.out HN).mono ?_); rintro e w' ⟨rfl, rfl⟩))
    | (go_at_call 18; ((with_reducible refine (attrsIn_any _ _ _ _).mono ?_); rintro e w' ⟨rfl, rfl⟩)))
  refine (wpIn_wide (n := 2)).1 ?_
  have HIT := Lib.hid (attrsIn_iter w.heap.size (w.heap.size + 1 + 1 + 1) A2 (n - 20) (c - 20) (bs.drop 20) (rlW w A2 n c) (rl_below w A2 n c).size (((BlkV.new_at _ _ _ [.slice A2 (n - 20) (c - 20)] _ (by simp) rfl).cell 0).trans rfl) (by simp) (fun W hb => HR2.out _ _ (HR.out.below ((rl_below w A2 n c).trans hb))) (by omega))
  refine rng_law (gf := 27) (lb := #[.pointer (some ⟨w.heap.size + 1 + 1 + 1, 0, none⟩)]) rfl (enters_of Try.func27 (by kernel_rfl) rfl) HIT.out (Below.refl _ _) (rl_below w A2 n c).size
    (fun x args W h => ?size) (IR w) (IxR bs w) (IR.calm w _ (rl_below w A2 n c).size) (IxR.calm bs w _ (rl_below w A2 n c).size) (IR.start w A2 n c) (AxR w A A2 n c) (fun x a2 => AxR.calm w A A2 n c x a2 _) ?assign ?body ?done ?stop
  case size =>
    cases x with
    | none => rw [h.2 rfl]; rfl
    | some y => obtain ⟨D, d, h1, _⟩ := h.1 y rfl; rw [h1]; rfl
  case assign =>
    intro l pre x args W K hI hok henc hK
    cases x with
    | none =>
      rw [henc.2 rfl]
      clear hI hok henc
      gi_wp2
      exact hK _ _ ((Below.refl _ _).alloc (Nat.le_refl _) _) ⟨W.heap.size, _, fun y h => (nomatch h), fun _ => rfl⟩
    | some y =>
      obtain ⟨D, d, h1, h2⟩ := henc.1 y rfl
      rw [h1]
      have H2 := Lib.hid h2
      clear hI hok henc h1 h2
      gi_wp2
      exact hK _ _ ((Below.refl _ _).alloc (Nat.le_refl _) _) ⟨W.heap.size, _, fun z hz => (by injection hz with hz; subst hz; exact ⟨D, d, rfl, BlkV.new_at _ _ _ _ _ rfl rfl, own_thN H2.out (grown_alloc _ _ none) (fun p hp => (nomatch hp))⟩), fun h => (nomatch h)⟩
  case body =>
    rintro l pre x a2 W ⟨L, A4, k, c4, rfl, hk, hk16, hRB, hB4, hAv⟩ hok hax
    obtain ⟨L2, rest, hLL, hb, hfit, hne, hx⟩ := hok
    obtain rfl : L = L2 := (List.map_inj_right (fun a b h => by injection h)).1 hLL
    have c4i : W.cell? ⟨w.heap.size + 1 + 1, 0, none⟩ = some (.slice A4 k c4) := (hB4.cell 0).trans rfl
    have f4i := hB4.frozen 0
    have HRB := Lib.hid hRB
    have HRB0 : Hid (BlkV W w.heap.size 28 zStn) := Lib.hid hRB.2.1
    have HRB1 : Hid (BlkV W (w.heap.size + 1) 29 [.int .i64 0]) := Lib.hid hRB.2.2
    have HB4 := Lib.hid hB4
    have HAV := Lib.hid hAv
    have HK := Lib.hid hk
    clear hLL hRB hB4 hAv hk
    obtain ⟨g, v27, hx1, hx2⟩ := hax
    rcases hx with ⟨y, hy, rfl⟩ | ⟨hno, rfl⟩
    · obtain ⟨D, d, rfl, hg, hown⟩ := hx1 y rfl
      simp only [frR]
      by_cases h16 : k = 16
      · have HNO := Lib.hid (no_more hb hfit hne (HK.out.symm.trans h16))
        subst h16
        clear hb hfit hne hy hx1 hx2 hown hg
        gi_wp2_with (refine in_wide (wide_in _) (by intro c hc; cases hc) ?_; (with_reducible refine wpList_st rfl 28 (.tmp 2) (.tmp 36) rfl w.heap.size 0 zStn rfl rfl 28 zStn HRB0.out fitS (rowStn zS_len) zS_one ?_); intro w3 hB3 ho3; refine ⟨rfl, ?_⟩; rw [splice_all _ _ (by rfl)] at hB3; have B1 := Lib.hid (HRB1.out.only ho3 (by omega)); have hc3 : w3.cell? ⟨w.heap.size + 1, 0, none⟩ = some (.int .i64 0) := (B1.out.cell 0).trans rfl; have hf3 := B1.out.frozen 0; have HB3 := Lib.hid hB3; have H3 := Lib.hid (HRB.out.1.trans (ho3.below (Nat.le_refl _))); have K3 := Lib.hid (keeps_only HRB0.out ho3); clear hB3 ho3)
        obtain ⟨k1, k2, k3⟩ := RB.set H3.out HB3.out B1.out 3
        exact ⟨(K3.out.trans (KeepsOthers.setCell _ _ _)).from _, rfl, k3, k1, k2, HNO.out⟩
      · have h16i : ((k : Int) == 16) = false := by simp; omega
        obtain ⟨rows, r1, r2, r3, r4⟩ := HAV.out
        have g0 : W.cell? ⟨g, 0, none⟩ = some (.int .u16 (y.1 : Int)) := (hg.cell 0).trans rfl
        have g1 : W.cell? ⟨g, 1, none⟩ = some (.slice D y.2.length d) := (hg.cell 1).trans rfl
        have HO1 : Hid ((W.alloc (.cells #[.int .u16 (y.1 : Int), .slice D y.2.length d] 47)).ownsRow w.heap.size 47 2 (.slice A4 k c4) k rows.flatten) := Lib.hid (own_thN r2 (grown_alloc _ _ none) (fun p hp => (nomatch hp)))
        have HBV : Hid (BlkV (W.alloc (.cells #[.int .u16 (y.1 : Int), .slice D y.2.length d] 47)) W.heap.size 47 [.int .u16 (y.1 : Int), .slice D y.2.length d]) := Lib.hid (BlkV.new_at _ _ _ _ _ rfl rfl)
        have HBS : Hid (w.heap.size ≤ (W.alloc (.cells #[.int .u16 (y.1 : Int), .slice D y.2.length d] 47)).heap.size) := Lib.hid (Nat.le_trans HRB.out.1.size (by simp))
        have HONE : Hid (∀ u ∈ [Value.int .u16 (y.1 : Int), .slice D y.2.length d], u.oneCell' = true) := Lib.hid (by simp [Value.oneCell'])
        have HAPP := Lib.hid (fun (w5 : World) (A5 : Option Addr) (c5 : Nat) => round_app (w := w) (W := W) (w5 := w5) (A4 := A4) (A5 := A5) (D := D) (k := k) (c4 := c4) (c5 := c5) (d := d) (L := L) (y := y) (rows := rows) HRB.out HB4.out HAV.out hown r1 r2 r4)
        have hk9 : k ≤ 1000000 := by omega
        have HIX : Hid (k + 1 = (L ++ [y]).length) := Lib.hid (by rw [HK.out]; simp)
        clear hb hfit hne hy hx1 hx2 hown hg r1 r2 r3 r4
        gi_wp2_with (refine in_wide (wide_in _) (by intro c hc; cases hc) ?_; at_builtin; refine wpList_appV rfl (.tmp 37) (.tmp 39) elAttr rfl w.heap.size (.slice A4 k c4) k rows.flatten rfl HO1.out W.heap.size rfl [.int .u16 (y.1 : Int), .slice D y.2.length d] rfl HONE.out HBV.out hk9 HBS.out ?_; intro v5 w5 hown5 hg5 _; refine ⟨rfl, ?_⟩; obtain ⟨A5, c5, hv⟩ := own_formN hown5; subst hv; obtain ⟨q1, q2, q3, q4, q5, q6⟩ := HAPP.out w5 A5 c5 hown5 hg5; have Q2 := Lib.hid q2; have Q3 := Lib.hid q3; have Q4 := Lib.hid q4; have Q5 := Lib.hid q5; have Q6 := Lib.hid q6; have hc5 : w5.cell? ⟨w.heap.size + 1 + 1, 0, none⟩ = some (.slice A4 k c4) := (q1.cell 0).trans rfl; have hf5 := q1.frozen 0; clear q1 q2 q3 q4 q5 q6 hown5 hg5)
        exact ⟨Q2.out.from _, Q3.out, L ++ [y], A5, k + 1, c5, by simp, HIX.out, by omega, Q4.out, Q5.out, Q6.out⟩
    · have hx2 := hx2 rfl
      subst hx2
      simp only [frR]
      have HNO := Lib.hid (no_head hb hfit hne hno)
      clear hb hfit hne hno hx1
      gi_wp2_with (refine in_wide (wide_in _) (by intro c hc; cases hc) ?_; (with_reducible refine wpList_st rfl 28 (.tmp 2) (.tmp 36) rfl w.heap.size 0 zStn rfl rfl 28 zStn HRB0.out fitS (rowStn zS_len) zS_one ?_); intro w3 hB3 ho3; refine ⟨rfl, ?_⟩; rw [splice_all _ _ (by rfl)] at hB3; have B1 := Lib.hid (HRB1.out.only ho3 (by omega)); have hc3 : w3.cell? ⟨w.heap.size + 1, 0, none⟩ = some (.int .i64 0) := (B1.out.cell 0).trans rfl; have hf3 := B1.out.frozen 0; have HB3 := Lib.hid hB3; have H3 := Lib.hid (HRB.out.1.trans (ho3.below (Nat.le_refl _))); have K3 := Lib.hid (keeps_only HRB0.out ho3); clear hB3 ho3)
      obtain ⟨k1, k2, k3⟩ := RB.set H3.out HB3.out B1.out 3
      exact ⟨(K3.out.trans (KeepsOthers.setCell _ _ _)).from _, rfl, k3, k1, k2, HNO.out⟩
  case done =>
    rintro D xs W hD hS ⟨L, A4, k, c4, rfl, hk, hk16, hRB, hB4, hAv⟩ hKD
    have hBL : bs.drop 20 = bodS L ∧ fitA L := by
      rcases hS with ⟨L2, hLL, hb, hfit⟩ | hmem
      · obtain rfl : L = L2 := (List.map_inj_right (fun a b h => by injection h)).1 hLL
        exact ⟨hb, hfit⟩
      · simp at hmem
    have hms := is_msg (by omega) HI0.out.2.1 HI0.out.2.2 (by rw [HNM.out, hl]) hBL.1 hBL.2 (by omega)
    have hm1 := msg_one hBL.1 hBL.2
    have c4i : W.cell? ⟨w.heap.size + 1 + 1, 0, none⟩ = some (.slice A4 k c4) := (hB4.cell 0).trans rfl
    have hrW := HR.out.below hRB.1
    obtain ⟨A8, hs8, hs8', hr8⟩ := run_sl W A n c bs 8 20 8 20 rfl rfl (by omega) h20 hrW
    obtain ⟨tx, htx⟩ : ∃ tx, tx = (bs.drop 8).take 12 := ⟨_, rfl⟩
    obtain ⟨ty, hty⟩ : ∃ ty, ty = numb (bs.take 2) := ⟨_, rfl⟩
    rw [show 20 - 8 = 12 from rfl] at hs8 hs8' hr8
    rw [← htx] at hms hm1 hr8
    rw [← hty] at hms hm1
    have htl : tx.length = 12 := hr8.len
    obtain ⟨b8, off8, rfl, hlt8, hc8⟩ := hr8.2.2.2.2 (by omega)
    have hty2 : ty < 65536 := by rw [hty]; exact numb2 _
    have HNU : Hid (Calls Try.prog 17 #[.slice A n c, .int .i64 0, .int .i64 2] W.drew fun e w' => e = .returned (.int .u64 (ty : Int)) ∧ W.drew = w') := Lib.hid (by
      have := number_any A n c bs 0 2 0 2 rfl rfl W.drew hrW.drew (by omega) (by omega) (by omega)
      rw [List.drop_zero, ← hty] at this
      exact this)
    have ety : IntKind.u16.wrap (ty : Int) = (ty : Int) := by rw [IntKind.wrap_u16]; omega
    have HRB := Lib.hid hRB
    have HRB0 : Hid (BlkV W w.heap.size 28 zStn) := Lib.hid hRB.2.1
    have HRB1 : Hid (BlkV W (w.heap.size + 1) 29 [.int .i64 0]) := Lib.hid hRB.2.2
    have HAV := Lib.hid hAv
    have HK := Lib.hid hk
    have HKD := Lib.hid hKD
    have HMS := Lib.hid hms
    have HM1 := Lib.hid hm1
    have HC8 : Hid (W.drew.rangeAt b8 off8 (cells tx)) := Lib.hid (fun j v hv => by
      have hj : j < tx.length := by
        rcases Nat.lt_or_ge j tx.length with h | h
        · exact h
        · rw [List.getElem?_eq_none (by rw [length_cells]; exact h)] at hv; cases hv
      rw [cells_at hj] at hv
      injection hv with hv
      rw [← hv]
      exact hc8 j (by omega))
    clear hBL hms hm1 hrW hr8 hc8 htx hty hRB hB4 hAv hk hS hKD
    have hta : ∀ wx, (Instr.arrayAt 25 (.slice (some ⟨b8, off8, none⟩) 12 (c - 8))).run Try.prog wx = .ok (.pointer (some ⟨b8, off8, none⟩)) wx := fun wx => run_arrayAt wx 25 5 12 (some ⟨b8, off8, none⟩) 12 (c - 8) Try.underlying25 (by omega)
    have HTL := Lib.hid htl
    have HT25 : Hid (RowTy Try.prog 25 (cells tx).length) := Lib.hid (by rw [length_cells, htl]; exact ⟨_, Try.underlying25, rfl, by kernel_rfl⟩)
    go_wp2_with (fail)
    go_still_tail 9, (by kernel_rfl)
    still_call ((HNU.out).mono fun _ _ h => ⟨h.1, h.2.symm⟩)
    repeat still_step
    refine wpStill_ld rfl 25 (.tmp 46) rfl b8 off8 rfl (cells tx) HC8.out HT25.out ?_
    repeat still_step
    refine wpStill_built3 rfl 28 (.tmp 43) (.tmp 47) (.tmp 48) rfl (.int .u16 (ty : Int)) (.agg (cells tx).toArray) (.slice A4 k c4) (.agg (sC ty tx (.slice A4 k c4)).toArray) rfl rfl rfl (built_s _ _ _ _ _ _ HTL.out) ?_
    refine wpStill_nil ?_
    change wpList _ _ _ _ _ W.drew
    obtain ⟨Wd, hWd⟩ : ∃ Wd, Wd = W.drew := ⟨_, rfl⟩
    rw [← hWd]
    have RB0 : Hid (BlkV Wd w.heap.size 28 zStn) := Lib.hid (by rw [hWd]; exact HRB0.out.drew)
    have RB1 : Hid (BlkV Wd (w.heap.size + 1) 29 [.int .i64 0]) := Lib.hid (by rw [hWd]; exact HRB1.out.drew)
    have RBB : Hid (Below w.heap.size w Wd) := Lib.hid (by rw [hWd]; exact HRB.out.1.drew)
    have RAV : Hid (AvO Wd w.heap.size A4 k c4 L) := Lib.hid (by rw [hWd]; exact HAV.out.below (Below.refl _ W).drew)
    have RKD : Hid (Wd.heap[D]? = some (.deferred (some []))) := Lib.hid (by rw [hWd]; exact HKD.out)
    have HSL : Hid ((sC ty tx (.slice A4 k c4)).length = 14) := Lib.hid (by rw [sC_len, HTL.out])
    have HFI : Hid (0 + (sC ty tx (.slice A4 k c4)).length ≤ zStn.length) := Lib.hid (by rw [HSL.out, zS_len]; omega)
    clear hWd c4i
    go_wp2_with ((with_reducible refine wpList_st rfl 28 (.tmp 2) (.tmp 49) rfl w.heap.size 0 (sC ty tx (.slice A4 k c4)) rfl rfl 28 zStn RB0.out HFI.out (rowStn HSL.out) (sC_one _ _ _ _ _) ?_); intro w3 hB3 ho3; rw [splice_all _ _ (by rw [HSL.out]; rfl)] at hB3; have B1 := Lib.hid (RB1.out.only ho3 (by omega)); have hc3 : w3.cell? ⟨w.heap.size + 1, 0, none⟩ = some (.int .i64 0) := (B1.out.cell 0).trans rfl; have hf3 := B1.out.frozen 0; have HB3 := Lib.hid hB3; have H3 := Lib.hid (RBB.out.trans (ho3.below (Nat.le_refl _))); have HO3 := Lib.hid ho3; clear hB3 ho3)
    obtain ⟨k1, k2, k3⟩ := RB.set H3.out HB3.out B1.out 0
    have hDs : w.heap.size + 4 ≤ D := by rw [rl_size] at hD; exact hD
    have hkd : (w3.setCell ⟨w.heap.size + 1, 0, none⟩ (.int .i64 0)).heap[D]? = some (.deferred (some [])) := (Below.heap_setCell _ _ _ D (by simp; omega)).trans ((HO3.out.block D (by omega)).trans RKD.out)
    have hT : Turn (rlW w A2 n c).heap.size (w3.setCell ⟨w.heap.size + 1, 0, none⟩ (.int .i64 0)) ((w3.setCell ⟨w.heap.size + 1, 0, none⟩ (.int .i64 0)).putObj D (.deferred none)) := Turn.obj _ hD hkd rfl
    have hav := ((RAV.out.other HO3.out.grown (fun p hp => by injection hp with hp; subst hp; exact ⟨_, 28, _, RB0.out, by decide, by decide⟩)).other (Only.set w3 (w.heap.size + 1) 0 (.int .i64 0)).grown (fun p hp => by injection hp with hp; subst hp; exact ⟨_, 29, _, B1.out, by decide, by decide⟩)).turn hT
    refine ⟨by simp, .inl ⟨_, _, rfl, run_takeDeferred hkd, ?_⟩⟩
    refine ⟨_, res_two rfl rfl rfl (k1.turn hT) (rowStn HSL.out) (hT.cell k2) Try.underlying29, fun s hs => ⟨_, rfl, ?_⟩, fun hno => absurd HMS.out (hno _), k3.trans (hT.below (rl_below w A2 n _).size k3.size)⟩
    rw [HM1.out s hs]
    exact ⟨A4, c4, by rw [HK.out], by have := hav; rw [HK.out] at this; exact this.rd⟩
  case stop =>
    rintro D cd pre W hD ⟨rfl, hb, hB, hc, hno⟩ hKD
    refine wpIn_ret ?_
    have hT : Turn (rlW w A2 n c).heap.size W (W.putObj D (.deferred none)) := Turn.obj _ hD hKD rfl
    refine ⟨by simp, .inl ⟨_, _, rfl, run_takeDeferred hKD, ?_⟩⟩
    exact ⟨_, res_two rfl rfl rfl (hB.turn hT) (rowStn zS_len) (hT.cell hc) Try.underlying29, R12.form (by omega) hno (hb.trans (hT.below (rl_below w A2 n _).size hb.size))⟩
/-- What Read tells. -/
theorem read_any (A : Option Addr) (n c : Nat) (bs : List UInt8) (w : World) (hr : RdS w A n c bs) (hn : n ≤ 100000) : Calls Try.prog 7 #[.slice A n c] w (R12 bs w) := by
  by_cases h20 : n < 20
  · exact read_short A n c bs w hr h20
  · by_cases h : isB bs ∧ numb ((bs.drop 2).take 2) = n - 20
    · exact read_loop A n c bs w hr (by omega) hn h.1 h.2
    · refine read_form A n c bs w hr (by omega) hn ?_
      by_cases hB : isB bs
      · exact .inr (fun e => h ⟨hB, e⟩)
      · exact .inl hB
end Go.Proofs.Ythoiebjndchobaa
