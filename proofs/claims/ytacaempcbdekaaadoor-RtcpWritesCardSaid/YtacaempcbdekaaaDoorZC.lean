/- Several texts in one: What the document's answer for layer 11 (tenailleref11) tells of losses. What the document's answer for layer 11 (tenailleref11) tells of numbers: their losses. Numbers and losses that come in, opened. Contracts of package rtcp: the numbers that losses tell. What the document's answer for layer 11 (tenailleref11) tells of a rate: mantissa and exponent. The walk of the statement RtcpLosses, where the program's Nacked and Losses tell what the document's do. No statement is proved here. -/
import Derived.Test.YtacaempcbdekaaaDoorZA
import Derived.Maps.AppendAt
import Derived.BigQuiet
namespace Go.Proofs.YtacaempcbdekaaaDoor
open Go.RowKit
set_option linter.unusedVariables false

def hcells (L : List Nat) : List Value := L.map fun x : Nat => .int .u16 (x : Int)
theorem hcells_len (L : List Nat) : (hcells L).length = L.length := by simp [hcells]
theorem hcells_snoc (L : List Nat) (x : Nat) : hcells (L ++ [x]) = hcells L ++ [.int .u16 (x : Int)] := by simp [hcells]
theorem hcells_at {L : List Nat} {j : Nat} (h : j < L.length) : (hcells L)[j]? = some (.int .u16 ((L.getD j 0 : Nat) : Int)) := by simp [hcells, List.getD, h]
theorem u16_inf : (Tryd.prog.info? 39).map (fun i => (i.zero, i.size, i.bytes)) = some (some (.int .u16 0), 1, 2) := by kernel_rfl

/-- A slice of losses reads as these. -/
def RdL (w : World) (A : Option Addr) (n : Nat) (L : List (Nat × Nat)) : Prop :=
  L.length = n ∧ n ≤ 9223372036854775807 ∧ (∀ a ∈ L, a.1 < 65536 ∧ a.2 < 65536) ∧ (0 < n → ∃ b off, A = some ⟨b, off, none⟩ ∧ b < w.heap.size ∧ ∀ j, j < n → w.cell? ⟨b, off + j * 2, none⟩ = some (.int .u16 (((L.getD j (0, 0)).1 : Nat) : Int)) ∧ w.cell? ⟨b, off + j * 2 + 1, none⟩ = some (.int .u16 (((L.getD j (0, 0)).2 : Nat) : Int)))
theorem RdL.below {w w' : World} {A : Option Addr} {n : Nat} {L : List (Nat × Nat)} (h : RdL w A n L) (hb : Below w.heap.size w w') : RdL w' A n L := by
  refine ⟨h.1, h.2.1, h.2.2.1, fun hn => ?_⟩
  obtain ⟨b, off, hA, hlt, hc⟩ := h.2.2.2 hn
  exact ⟨b, off, hA, Nat.lt_of_lt_of_le hlt hb.size, fun j hj => ⟨(hb.cell (p := ⟨b, off + j * 2, none⟩) hlt).trans (hc j hj).1, (hb.cell (p := ⟨b, off + j * 2 + 1, none⟩) hlt).trans (hc j hj).2⟩⟩

theorem bit_of (b j x : Nat) (h : x = b / 2 ^ j) : b.testBit j = decide (x % 2 = 1) := by rw [h, Nat.testBit_eq_decide_div_mod_eq]
theorem half_of (b j x : Nat) (h : x = b / 2 ^ j) : x / 2 = b / 2 ^ (j + 1) := by rw [h, Nat.div_div_eq_div_mul, Nat.pow_succ]

set_option maxRecDepth 100000 in
set_option maxHeartbeats 2000000 in
theorem rnacked_any (A : Option Addr) (n c : Nat) (L : List (Nat × Nat)) (w : World) (h : RdL w A n L) (hn : n ≤ 1000) :
    Calls Tryd.prog 15 #[.slice A n c] w fun e w' => ∃ A' c', e = .returned (.slice A' (nkL L).length c') ∧ w'.ownsRow w.heap.size 39 1 (.slice A' (nkL L).length c') (nkL L).length (hcells (nkL L)) ∧ Below w.heap.size w w' := by
  have HR := Lib.hid h
  clear h
  go_enter Tryd.func15, Tryd.ntmps15
  go_wp2
  go_loopw [3, 4] (fun v i wr => ∃ (k M : Nat) (A' : Option Addr) (c' : Nat), k ≤ n ∧ M ≤ 17 * k ∧ i = .int .i64 k ∧ v = .slice A' M c' ∧ Hid (wr.ownsRow w.heap.size 39 1 (.slice A' M c') M (hcells (nkL (L.take k))) ∧ Below w.heap.size w wr)) (fun _ i _ => n - (intOf i).toNat)
  case atStart => exact ⟨0, 0, none, 0, by omega, by omega, rfl, rfl, Lib.hid ⟨World.ownsRow_nil w _ _ _, Below.refl _ _⟩⟩
  case round =>
    obtain ⟨k, M, A1, c1, hk, hM, rfl, rfl, HL⟩ := hrel
    by_cases hkn : k < n
    · obtain ⟨b, off, rfl, hlt, hc⟩ := HR.out.2.2.2 (by omega)
      obtain ⟨q1, q2⟩ := hc k hkn
      have hmem : L.getD k (0, 0) ∈ L := by
        have : k < L.length := by rw [HR.out.1]; exact hkn
        simp [List.getD, this]
      obtain ⟨hs1, hs2⟩ := HR.out.2.2.1 _ hmem
      have hsn : L.take (k + 1) = L.take k ++ [L.getD k (0, 0)] := by
        have : k < L.length := by rw [HR.out.1]; exact hkn
        rw [List.take_add_one, List.getD, List.getElem?_eq_getElem this]; rfl
      obtain ⟨x, hx⟩ : ∃ x, x = L.getD k (0, 0) := ⟨_, rfl⟩
      rw [← hx] at q1 q2 hs1 hs2 hsn
      clear hx hmem hc
      obtain ⟨S, B⟩ := x
      simp only at q1 q2 hs1 hs2
      have Q1 : Hid (∀ W, Below w.heap.size w W → W.cell? ⟨b, off + k * 2, none⟩ = some (.int .u16 (S : Int))) := Lib.hid fun W hb => (hb.cell (p := ⟨b, off + k * 2, none⟩) hlt).trans q1
      have Q2 : Hid (∀ W, Below w.heap.size w W → W.cell? ⟨b, off + k * 2 + 1, none⟩ = some (.int .u16 (B : Int))) := Lib.hid fun W hb => (hb.cell (p := ⟨b, off + k * 2 + 1, none⟩) hlt).trans q2
      have HSN := Lib.hid hsn
      obtain ⟨T, hT⟩ : ∃ T, T = nkL (L.take k) := ⟨_, rfl⟩
      rw [← hT] at HL
      have HT := Lib.hid hT
      clear q1 q2 hsn hT
      have r1 := Q1.out _ HL.out.2
      have r2 := Q2.out _ HL.out.2
      have hsz := HL.out.2.size
      go_wp2_with (at_builtin; refine wpList_app1 _ rfl (.tmp 13) (.tmp 19) rfl Tryd.underlying36 u16_inf rfl (by omega) w.heap.size (.slice A1 M c1) M (hcells T) rfl (HL.out.1.alloc _) ⟨wr.heap.size, 0, none⟩ 1 rfl (.int .u16 (S : Int)) (cell_one_new _ _ _ 0 _ rfl) rfl (by omega) (by simp; omega) ?_; intro v2 w2 hown2 hg2 hat2 _; obtain ⟨A2, c2, hv2⟩ := own_form hown2; subst hv2; have b2 : Hid (Below w.heap.size w w2) := Lib.hid ((HL.out.2.alloc HL.out.2.size _).grown hg2 (by simp; omega) (fun q hq => (HL.out.1.lt q hq).1)); have o2 := Lib.hid hown2; have r2 := Q2.out _ b2.out; clear hown2 hg2 hat2)
      rw [show hcells T ++ [Value.int IntKind.u16 (S : Int)] = hcells (T ++ S :: nkT S B 0) by rw [← hcells_snoc]; rfl] at o2
      go_loopw [3, 5, 6] (fun v vb vk wx => ∃ (j M2 X : Nat) (A2 : Option Addr) (c2 : Nat), j ≤ 16 ∧ X < 65536 ∧ M2 ≤ M + 1 + j ∧ vk = .int .i64 ((j : Int) + 1) ∧ vb = .int .u16 (X : Int) ∧ v = .slice A2 M2 c2 ∧ Hid (X = B / 2 ^ j) ∧ Hid (wx.ownsRow w.heap.size 39 1 (.slice A2 M2 c2) M2 (hcells (T ++ S :: nkT S B j)) ∧ Below w.heap.size w wx)) (fun _ _ vk _ => 17 - (intOf vk).toNat)
      case atStart => exact ⟨0, M + 1, B, A2, c2, by omega, hs2, by omega, by simp, rfl, rfl, Lib.hid (by simp), Lib.hid ⟨o2.out, b2.out⟩⟩
      case round =>
        obtain ⟨j, M2, X, A2, c2, hj, hX, hM2, rfl, rfl, rfl, HX, HL2⟩ := hrel
        clear o2 b2 HL
        have hbit := bit_of B j X HX.out
        have HB := Lib.hid hbit
        have HX2 := Lib.hid (half_of B j X HX.out)
        have q1 := Q1.out _ HL2.out.2
        have hsz2 := HL2.out.2.size
        have ht : nkT S B (j + 1) = nkT S B j ++ (if B.testBit j = true then [(S + j + 1) % 65536] else []) := nkT_succ S B j
        have HNT := Lib.hid ht
        clear hbit ht
        by_cases hj16 : j < 16
        · by_cases hb : X % 2 = 1
          · have hq : ((X : Int) % 2 == 1) = true := by simp; omega
            have e1 : IntKind.u16.wrap ((j : Int) + 1) = (j : Int) + 1 := by rw [IntKind.wrap_u16]; omega
            obtain ⟨Y, hY⟩ : ∃ Y, Y = (S + j + 1) % 65536 := ⟨_, rfl⟩
            have e2 : IntKind.u16.wrap ((S : Int) + ((j : Int) + 1)) = (Y : Int) := by rw [IntKind.wrap_u16, hY]; omega
            have hn2 : T ++ S :: nkT S B (j + 1) = (T ++ S :: nkT S B j) ++ [Y] := by
              rw [HNT.out, HB.out, hY]; simp [hb]
            have HN2 := Lib.hid hn2
            clear hn2 hY
            go_wp2_with (at_builtin; refine wpList_app1 _ rfl (.tmp 33) (.tmp 42) rfl Tryd.underlying36 u16_inf rfl (by omega) w.heap.size (.slice A2 M2 c2) M2 (hcells (T ++ S :: nkT S B j)) rfl (HL2.out.1.alloc _) ⟨wr.heap.size, 0, none⟩ 1 rfl (.int .u16 (Y : Int)) (cell_one_new _ _ _ 0 _ rfl) rfl (by omega) (by simp; omega) ?_; intro v3 w3 hown3 hg3 hat3 _; obtain ⟨A3, c3, hv3⟩ := own_form hown3; subst hv3; have h3 := Lib.hid (show w3.ownsRow w.heap.size 39 1 (.slice A3 (M2 + 1) c3) (M2 + 1) (hcells (T ++ S :: nkT S B (j + 1))) ∧ Below w.heap.size w w3 from ⟨by rw [HN2.out, hcells_snoc]; exact hown3, (HL2.out.2.alloc HL2.out.2.size _).grown hg3 (by simp; omega) (fun q hq => (HL2.out.1.lt q hq).1)⟩); clear hown3 hg3 hat3)
            go_roundw
            case rel => exact ⟨j + 1, M2 + 1, X / 2, A3, c3, by omega, by omega, by omega, by go_num, by simp, rfl, HX2, h3⟩
            case measure => simp [intOf]; omega
          · have hq : ((X : Int) % 2 == 1) = false := by simp; omega
            have hn2 : T ++ S :: nkT S B (j + 1) = T ++ S :: nkT S B j := by
              rw [HNT.out, HB.out]; simp [hb]
            have h3 := Lib.hid (show wr.ownsRow w.heap.size 39 1 (.slice A2 M2 c2) M2 (hcells (T ++ S :: nkT S B (j + 1))) ∧ Below w.heap.size w wr from ⟨by rw [hn2]; exact HL2.out.1, HL2.out.2⟩)
            clear hn2
            go_wp2
            go_roundw
            case rel => exact ⟨j + 1, M2, X / 2, A2, c2, by omega, by omega, by omega, by go_num, by simp, rfl, HX2, h3⟩
            case measure => simp [intOf]; omega
        · have hje : j = 16 := by omega
          have hn2 : nkL (L.take (k + 1)) = T ++ S :: nkT S B 16 := by
            rw [HSN.out, nkL_snoc, ← HT.out]; rfl
          have h3 := Lib.hid (show wr.ownsRow w.heap.size 39 1 (.slice A2 M2 c2) M2 (hcells (nkL (L.take (k + 1)))) ∧ Below w.heap.size w wr from ⟨by rw [hn2, ← hje]; exact HL2.out.1, HL2.out.2⟩)
          clear hn2
          go_wp2
          go_roundw
          case rel => exact ⟨k + 1, M2, A2, c2, by omega, by omega, by go_num, rfl, h3⟩
          case measure => simp [intOf]; omega
    · obtain rfl : k = n := by omega
      rw [show L.take k = L by rw [← HR.out.1, List.take_length]] at HL
      have hm : M = (nkL L).length := by have := HL.out.1.1; rw [hcells_len] at this; omega
      subst hm
      go_wp2
      go_ret
      exact ⟨A1, c1, rfl, HL.out.1, HL.out.2⟩
end Go.Proofs.YtacaempcbdekaaaDoor

namespace Go.Proofs.YtacaempcbdekaaaDoor
open Go.RowKit
set_option linter.unusedVariables false

def lcells (L : List (Nat × Nat)) : List Value := L.flatMap fun a => [.int .u16 (a.1 : Int), .int .u16 (a.2 : Int)]
theorem lcells_snoc (L : List (Nat × Nat)) (s b : Nat) : lcells (L ++ [(s, b)]) = lcells L ++ [.int .u16 (s : Int), .int .u16 (b : Int)] := by simp [lcells]
theorem lcells_len (L : List (Nat × Nat)) : (lcells L).length = L.length * 2 := by
  induction L with
  | nil => rfl
  | cons a r ih =>
    have : lcells (a :: r) = [.int .u16 (a.1 : Int), .int .u16 (a.2 : Int)] ++ lcells r := by simp [lcells]
    rw [this, List.length_append, ih, List.length_cons]
    simp; omega
theorem lcells_s (L : List (Nat × Nat)) (s b : Nat) : (lcells (L ++ [(s, b)]))[L.length * 2]? = some (.int .u16 (s : Int)) := by
  rw [lcells_snoc, List.getElem?_append_right (by rw [lcells_len]; omega), lcells_len, Nat.sub_self]; rfl
theorem lcells_b (L : List (Nat × Nat)) (s b : Nat) : (lcells (L ++ [(s, b)]))[L.length * 2 + 1]? = some (.int .u16 (b : Int)) := by
  rw [lcells_snoc, List.getElem?_append_right (by rw [lcells_len]; omega), lcells_len, Nat.add_sub_cancel_left]; rfl
theorem lcells_set (L : List (Nat × Nat)) (s b b' : Nat) : (lcells (L ++ [(s, b)])).set (L.length * 2 + 1) (.int .u16 (b' : Int)) = lcells (L ++ [(s, b')]) := by
  rw [lcells_snoc, lcells_snoc, List.set_append_right _ _ (by rw [lcells_len]; omega), lcells_len, Nat.add_sub_cancel_left]; rfl

theorem loss_inf : ∃ i, Tryd.prog.info? 41 = some i ∧ i.zero = some (.agg #[.int .u16 0, .int .u16 0]) ∧ i.size = 2 ∧ i.bytes = 4 := by
  have h : (Tryd.prog.info? 41).map (fun i => (i.zero, i.size, i.bytes)) = some (some (.agg #[.int .u16 0, .int .u16 0]), 2, 4) := by kernel_rfl
  cases hi : Tryd.prog.info? 41 with
  | none => rw [hi] at h; cases h
  | some i =>
    rw [hi] at h
    simp only [Option.map_some, Option.some.injEq, Prod.mk.injEq] at h
    exact ⟨i, rfl, h.1, h.2.1, h.2.2⟩
/-- One loss is put behind losses of the call's own. -/
theorem wpList_app2 {w : World} {ops : Array Oper} {rest : List Oper} {o : Oper} {a : Act} {Q : Exit → Act → World → Prop} (hgd : o.guard = none) (s y : Operand)
    (ho : o.op = .call { callee := .builtin .append, args := #[s, y], argTypes := #[35, 35] })
    (base : Nat) (v : Value) (n : Nat) (xs : List Value) (hs : a.eval s = v) (hown : w.ownsRow base 41 2 v n xs) (g : Nat) (hy : a.eval y = .slice (some ⟨g, 0, none⟩) 1 1) (p q : Nat) (hp : w.cell? ⟨g, 0, none⟩ = some (.int .u16 (p : Int))) (hq : w.cell? ⟨g, 1, none⟩ = some (.int .u16 (q : Int))) (hn : n ≤ 1000000) (hbase : base ≤ w.heap.size)
    (h : ∀ v' w', w'.ownsRow base 41 2 v' (n + 1) (xs ++ [.int .u16 (p : Int), .int .u16 (q : Int)]) → w.grownBy w' v.ownBlock → wpList Tryd.prog ops Q rest (a.put o.dst v') w') : wpList Tryd.prog ops Q (o :: rest) a w := by
  obtain ⟨i, hi, hz, hsz, hby⟩ := loss_inf
  refine wpList_append_own_at w hgd s y 35 ho base 41 i _ 2 4 Tryd.underlying35 hi hz hsz hby rfl (by omega) v n xs hs hown ⟨g, 0, none⟩ 1 1 [.int .u16 (p : Int), .int .u16 (q : Int)] hy rfl ?_ ?_ (by simp [maxLen]; omega) (by omega) hbase (fun v' w' h1 h2 _ _ => h v' w' h1 h2)
  · intro j u hj
    rw [add_lit, Nat.zero_add]
    match j, hj with
    | 0, hj => simp at hj; subst hj; exact hp
    | 1, hj => simp at hj; subst hj; exact hq
    | j + 2, hj => simp at hj
  · intro u hu
    simp at hu
    rcases hu with rfl | rfl <;> rfl

/-- A slice of numbers reads as these. -/
def RdH (w : World) (A : Option Addr) (n : Nat) (L : List Nat) : Prop :=
  L.length = n ∧ n ≤ 9223372036854775807 ∧ (∀ x ∈ L, x < 65536) ∧ (0 < n → ∃ b off, A = some ⟨b, off, none⟩ ∧ b < w.heap.size ∧ ∀ j, j < n → w.cell? ⟨b, off + j, none⟩ = some (.int .u16 ((L.getD j 0 : Nat) : Int)))
theorem RdH.below {w w' : World} {A : Option Addr} {n : Nat} {L : List Nat} (h : RdH w A n L) (hb : Below w.heap.size w w') : RdH w' A n L := by
  refine ⟨h.1, h.2.1, h.2.2.1, fun hn => ?_⟩
  obtain ⟨b, off, hA, hlt, hc⟩ := h.2.2.2 hn
  exact ⟨b, off, hA, Nat.lt_of_lt_of_le hlt hb.size, fun j hj => (hb.cell (p := ⟨b, off + j, none⟩) hlt).trans (hc j hj)⟩
theorem shl_u16 (j : Nat) (hj : j < 16) : Op.shift .shl .u16 1 .u64 (j : Int) = pure (.int .u16 ((2 ^ j : Nat) : Int)) := by
  have h0 : ¬ ((j : Int) < 0) := by omega
  unfold Op.shift
  rw [if_neg h0]
  simp only [Int.toNat_natCast, IntKind.bits]
  have hp : (2 : Nat) ^ j < 65536 := Nat.lt_of_lt_of_le (Nat.pow_lt_pow_right (by omega) hj) (by decide)
  rw [Nat.min_eq_left (by omega), IntKind.wrap_u16]
  obtain ⟨y, hy⟩ : ∃ y, y = 2 ^ j := ⟨_, rfl⟩
  rw [← hy] at hp
  have e : (2 : Int) ^ j = (y : Int) := by rw [hy]; simp
  simp only [Int.one_mul, e, ← hy]
  congr 2
  omega

theorem zeroLoss (w : World) : (zeroValue 41).run Tryd.prog w = .ok (.agg #[.int .u16 0, .int .u16 0]) w := by kernel_rfl
theorem own_form2 {w : World} {base : Nat} {e : TypeId} {v : Value} {n : Nat} {xs : List Value} (h : w.ownsRow base e 2 v n xs) : ∃ A c, v = .slice A n c := by
  rcases h.2 with ⟨rfl, rfl⟩ | ⟨g, cap, cur, rfl, _⟩
  · exact ⟨none, 0, rfl⟩
  · exact ⟨_, cap, rfl⟩
theorem own_block2 {w : World} {base : Nat} {e : TypeId} {A : Option Addr} {n c : Nat} {xs : List Value} (h : w.ownsRow base e 2 (.slice A n c) n xs) (hn : 0 < n) : ∃ g, A = some ⟨g, 0, none⟩ ∧ base ≤ g := by
  rcases h.2 with ⟨_, h0⟩ | ⟨g, cap, cur, hv, hb, _⟩
  · omega
  · injection hv with h1 _ _
    exact ⟨g, h1, hb⟩
theorem new_loss (w : World) (p q : Nat) : (w.alloc (.cells #[.int .u16 (p : Int), .int .u16 (q : Int)] 41)).cell? ⟨w.heap.size, 0, none⟩ = some (.int .u16 (p : Int)) ∧ (w.alloc (.cells #[.int .u16 (p : Int), .int .u16 (q : Int)] 41)).cell? ⟨w.heap.size, 1, none⟩ = some (.int .u16 (q : Int)) :=
  ⟨((BlkV.new w 41 [.int .u16 (p : Int), .int .u16 (q : Int)]).cell 0).trans rfl, ((BlkV.new w 41 [.int .u16 (p : Int), .int .u16 (q : Int)]).cell 1).trans rfl⟩

set_option maxRecDepth 100000 in
set_option maxHeartbeats 4000000 in
theorem rlosses_any (A : Option Addr) (n c : Nat) (L : List Nat) (w : World) (h : RdH w A n L) (hn : n ≤ 1000) :
    Calls Tryd.prog 17 #[.slice A n c] w fun e w' => ∃ A' c', e = .returned (.slice A' (lsL L).length c') ∧ w'.ownsRow w.heap.size 41 2 (.slice A' (lsL L).length c') (lsL L).length (lcells (lsL L)) ∧ Below w.heap.size w w' := by
  have HR := Lib.hid h
  have hz := zeroLoss
  clear h
  go_enter Tryd.func17, Tryd.ntmps17
  go_wp2
  go_loopw [3, 4] (fun v i wr => ∃ (k M : Nat) (A' : Option Addr) (c' : Nat), k ≤ n ∧ M ≤ k ∧ i = .int .i64 k ∧ v = .slice A' M c' ∧ Hid (M = (lsL (L.take k)).length) ∧ Hid (wr.ownsRow w.heap.size 41 2 (.slice A' M c') M (lcells (lsL (L.take k))) ∧ Below w.heap.size w wr)) (fun _ i _ => n - (intOf i).toNat)
  case atStart => exact ⟨0, 0, none, 0, by omega, by omega, rfl, rfl, Lib.hid rfl, Lib.hid ⟨World.ownsRow_nil w _ _ _, Below.refl _ _⟩⟩
  case round =>
    obtain ⟨k, M, A1, c1, hk, hM, rfl, rfl, HM, HL⟩ := hrel
    by_cases hkn : k < n
    · obtain ⟨b, off, rfl, hlt, hc⟩ := HR.out.2.2.2 (by omega)
      have q1 := hc k hkn
      have hxl : L.getD k 0 < 65536 := by
        have : k < L.length := by rw [HR.out.1]; exact hkn
        have h2 : L.getD k 0 = L[k] := by simp [List.getD, this]
        rw [h2]; exact HR.out.2.2.1 _ (List.getElem_mem _)
      have hsn : L.take (k + 1) = L.take k ++ [L.getD k 0] := by
        have : k < L.length := by rw [HR.out.1]; exact hkn
        rw [List.take_add_one, List.getD, List.getElem?_eq_getElem this]; rfl
      obtain ⟨x, hx⟩ : ∃ x, x = L.getD k 0 := ⟨_, rfl⟩
      rw [← hx] at q1 hxl hsn
      have Q1 : Hid (∀ W, Below w.heap.size w W → W.cell? ⟨b, off + k, none⟩ = some (.int .u16 (x : Int))) := Lib.hid fun W hb => (hb.cell (p := ⟨b, off + k, none⟩) hlt).trans q1
      have HSN : Hid (lsL (L.take (k + 1)) = lsS (lsL (L.take k)) x) := Lib.hid (by rw [hsn, lsL_snoc])
      obtain ⟨O, hO⟩ : ∃ O, O = lsL (L.take k) := ⟨_, rfl⟩
      rw [← hO] at HM HL HSN
      have HF : Hid (∀ a ∈ O, a.1 < 65536 ∧ a.2 < 65536) := Lib.hid (by rw [hO]; exact lsL_fit _ (fun y hy => HR.out.2.2.1 y (List.mem_of_mem_take hy)))
      clear q1 hsn hx hc hO
      rcases List.eq_nil_or_concat O with hO | ⟨O1, a, hO⟩
      · subst hO
        have hM0 : M = 0 := HM.out
        subst hM0
        have HS2 : Hid (lsL (L.take (k + 1)) = [(x, 0)]) := Lib.hid (HSN.out.trans (lsS_nil x))
        clear HSN
        go_wp2
        go_loopw [5, 6] (fun vd vk wx => vd = .bool false ∧ vk = .int .i64 1 ∧ Hid (wx.ownsRow w.heap.size 41 2 (.slice A1 0 c1) 0 (lcells []) ∧ Below w.heap.size w wx)) (fun _ _ _ => 0)
        case atStart => exact ⟨rfl, rfl, HL⟩
        case round =>
          clear HL
          obtain ⟨rfl, rfl, HL⟩ := hrel
          have r1 := Q1.out _ HL.out.2
          have hsz := HL.out.2.size
          go_wp2_with (at_builtin; refine wpList_app2 rfl (.tmp 57) (.tmp 63) rfl w.heap.size (.slice A1 0 c1) 0 (lcells []) rfl (HL.out.1.alloc _) wr.heap.size rfl x 0 (new_loss wr x 0).1 (new_loss wr x 0).2 (by omega) (by simp; omega) ?_; intro v3 w3 hown3 hg3; obtain ⟨A3, c3, hv3⟩ := own_form2 hown3; subst hv3; have b3 := Lib.hid ((HL.out.2.alloc HL.out.2.size _).grown hg3 (by simp; omega) (fun q hq => (HL.out.1.lt q hq).1)); have o3 := Lib.hid hown3; clear hown3 hg3)
          go_roundw
          case rel => exact ⟨k + 1, 1, A3, c3, by omega, by omega, by go_num, rfl, Lib.hid (by rw [HS2.out]; rfl), Lib.hid ⟨by rw [HS2.out]; exact o3.out, b3.out⟩⟩
          case measure => simp [intOf]; omega
      · rw [List.concat_eq_append] at hO
        subst hO
        obtain ⟨s, bb⟩ := a
        obtain ⟨hs1, hs2⟩ := HF.out (s, bb) (by simp)
        simp only at hs1 hs2
        obtain ⟨m, hm⟩ : ∃ m, m = O1.length := ⟨_, rfl⟩
        have HMm : Hid (M = m + 1) := Lib.hid (by rw [HM.out, hm]; simp)
        have Hm := Lib.hid hm
        have hM1 : 0 < M := by have := HMm.out; omega
        have hm10 : m ≤ 1000 := by have := HMm.out; omega
        have e0 : IntKind.i64.wrap ((M : Int) - 1) = (m : Int) := by have := HMm.out; rw [IntKind.wrap_i64]; omega
        have hmM : (m : Int) < (M : Int) := by have := HMm.out; omega
        obtain ⟨g, rfl, hg⟩ := own_block2 HL.out.1 hM1
        obtain ⟨D, hD⟩ : ∃ D, D = far s x := ⟨_, rfl⟩
        have HD := Lib.hid hD
        clear HF HM hm hD
        go_wp2
        go_loopw [5, 6] (fun vd vk wx => ∃ (j V : Nat) (d : Bool), j ≤ 16 ∧ V < 65536 ∧ vd = .bool d ∧ vk = .int .i64 ((j : Int) + 1) ∧ Hid (d = decide (1 ≤ D ∧ D ≤ j)) ∧ Hid (V = if 1 ≤ D ∧ D ≤ j then bb ||| 2 ^ (D - 1) else bb) ∧ Hid (wx.ownsRow w.heap.size 41 2 (.slice (some ⟨g, 0, none⟩) M c1) M (lcells (O1 ++ [(s, V)])) ∧ Below w.heap.size w wx)) (fun _ vk _ => 17 - (intOf vk).toNat)
        case atStart => exact ⟨0, bb, false, by omega, hs2, rfl, by simp, Lib.hid (by symm; rw [decide_eq_false_iff_not]; omega), Lib.hid (by rw [if_neg (by omega)]), HL⟩
        case round =>
          clear HL
          obtain ⟨j, V, d, hj, hV, rfl, rfl, Hd, HV, HL⟩ := hrel
          have r1 := Q1.out _ HL.out.2
          have hsz := HL.out.2.size
          have cs : wr.cell? ⟨g, m * 2, none⟩ = some (.int .u16 (s : Int)) := (HL.out.1.cellAt (m * 2) (by have := HMm.out; omega)).trans (by rw [Hm.out]; exact lcells_s O1 s V)
          have cb : wr.cell? ⟨g, m * 2 + 1, none⟩ = some (.int .u16 (V : Int)) := (HL.out.1.cellAt (m * 2 + 1) (by have := HMm.out; omega)).trans (by rw [Hm.out]; exact lcells_b O1 s V)
          by_cases hj16 : j < 16
          · have e1 : IntKind.u16.wrap ((j : Int) + 1) = (j : Int) + 1 := by rw [IntKind.wrap_u16]; omega
            obtain ⟨Y, hY⟩ : ∃ Y, Y = (s + j + 1) % 65536 := ⟨_, rfl⟩
            have e2 : IntKind.u16.wrap ((s : Int) + ((j : Int) + 1)) = (Y : Int) := by rw [IntKind.wrap_u16, hY]; omega
            have HY : Hid (Y = x ↔ D = j + 1) := Lib.hid (by rw [HD.out, hY]; unfold far; omega)
            clear hY
            by_cases hYx : Y = x
            · have hDj := HY.out.1 hYx
              have hq : ((Y : Int) == (x : Int)) = true := by simp [hYx]
              have HV3 : Hid (V = bb) := Lib.hid (by rw [HV.out, if_neg (by omega)])
              obtain ⟨P, hP⟩ : ∃ P, P = 2 ^ j := ⟨_, rfl⟩
              have hP2 : P < 65536 := by rw [hP]; exact Nat.lt_of_lt_of_le (Nat.pow_lt_pow_right (by omega) hj16) (by decide)
              have e4 : IntKind.u16.wrap ((2 : Int) ^ j) = (P : Int) := by
                have e : (2 : Int) ^ j = (P : Int) := by rw [hP]; simp
                rw [e, IntKind.wrap_u16]; omega
              obtain ⟨Z, hZ⟩ : ∃ Z, Z = V ||| P := ⟨_, rfl⟩
              have hor := u16_or_nat V P hV hP2
              rw [← hZ] at hor
              have hZ2 : Z < 65536 := by rw [hZ]; exact Nat.or_lt_two_pow (n := 16) hV hP2
              have Hd2 : Hid (true = decide (1 ≤ D ∧ D ≤ j + 1)) := Lib.hid (by symm; rw [decide_eq_true_iff]; omega)
              have HV2 : Hid (Z = if 1 ≤ D ∧ D ≤ j + 1 then bb ||| 2 ^ (D - 1) else bb) := Lib.hid (by
                rw [if_pos (by omega), hZ, HV3.out, hP, hDj, Nat.add_sub_cancel])
              have HB3 : Hid (∀ wq : World, wq.ownsRow w.heap.size 41 2 (.slice (some ⟨g, 0, none⟩) M c1) M (lcells (O1 ++ [(s, V)])) → Below w.heap.size w wq → (wq.setCell ⟨g, m * 2 + 1, none⟩ (.int .u16 (Z : Int))).ownsRow w.heap.size 41 2 (.slice (some ⟨g, 0, none⟩) M c1) M (lcells (O1 ++ [(s, Z)])) ∧ Below w.heap.size w (wq.setCell ⟨g, m * 2 + 1, none⟩ (.int .u16 (Z : Int)))) := Lib.hid fun wq h1 h2 => by
                have h3 := (h1.stored (m * 2 + 1) (.int .u16 (Z : Int))).1
                rw [Hm.out, lcells_set] at h3
                rw [Hm.out]
                exact ⟨h3, h2.setCell hg _⟩
              clear hYx hDj hP hZ HV3
              go_wp2
              go_quiet (fail)
              have h3 := Lib.hid (show (wr.drewN nq).ownsRow w.heap.size 41 2 (.slice (some ⟨g, 0, none⟩) M c1) M (lcells (O1 ++ [(s, V)])) ∧ Below w.heap.size w (wr.drewN nq) from ⟨HL.out.1, HL.out.2.trans ⟨rfl, rfl, rfl, Nat.le_refl _, fun _ _ => rfl⟩⟩)
              clear cs cb r1 hsz
              generalize wr.drewN nq = wq at h3 ⊢
              have cb : wq.cell? ⟨g, m * 2 + 1, none⟩ = some (.int .u16 (V : Int)) := (h3.out.1.cellAt (m * 2 + 1) (by have := HMm.out; omega)).trans (by rw [Hm.out]; exact lcells_b O1 s V)
              have cf : wq.frozen? ⟨g, m * 2 + 1, none⟩ = false := h3.out.1.frozenAt (m * 2 + 1)
              go_wp2
              go_roundw
              case rel => exact ⟨j + 1, Z, true, by omega, hZ2, rfl, by go_num, Hd2, HV2, Lib.hid (HB3.out wq h3.out.1 h3.out.2)⟩
              case measure => simp [intOf]; omega
            · have hDj : ¬ D = j + 1 := fun h => hYx (HY.out.2 h)
              have hq : ((Y : Int) == (x : Int)) = false := by simp; omega
              have Hd2 : Hid (d = decide (1 ≤ D ∧ D ≤ j + 1)) := Lib.hid (by rw [Hd.out, decide_eq_decide]; omega)
              have HV2 : Hid (V = if 1 ≤ D ∧ D ≤ j + 1 then bb ||| 2 ^ (D - 1) else bb) := Lib.hid (by
                rw [HV.out]
                by_cases hc : 1 ≤ D ∧ D ≤ j
                · rw [if_pos hc, if_pos (by omega)]
                · rw [if_neg hc, if_neg (by omega)])
              clear hYx hDj
              go_wp2
              go_quiet (fail)
              have h3 := Lib.hid (show (wr.drewN nq).ownsRow w.heap.size 41 2 (.slice (some ⟨g, 0, none⟩) M c1) M (lcells (O1 ++ [(s, V)])) ∧ Below w.heap.size w (wr.drewN nq) from ⟨HL.out.1, HL.out.2.trans ⟨rfl, rfl, rfl, Nat.le_refl _, fun _ _ => rfl⟩⟩)
              generalize wr.drewN nq = wq at h3 ⊢
              go_wp2
              go_roundw
              case rel => exact ⟨j + 1, V, d, by omega, hV, rfl, by go_num, Hd2, HV2, h3⟩
              case measure => simp [intOf]; omega
          · have hje : j = 16 := by omega
            subst hje
            cases hd : d
            · have hno : ¬ (1 ≤ D ∧ D ≤ 16) := by have := Hd.out; rw [hd] at this; exact decide_eq_false_iff_not.1 this.symm
              have HS2 : Hid (lsL (L.take (k + 1)) = (O1 ++ [(s, V)]) ++ [(x, 0)]) := Lib.hid (by
                rw [HSN.out, lsS_new O1 s bb x (by rw [← HD.out]; exact hno), HV.out, if_neg hno])
              subst hd
              clear hno HSN
              go_wp2_with (at_builtin; refine wpList_app2 rfl (.tmp 57) (.tmp 63) rfl w.heap.size (.slice (some ⟨g, 0, none⟩) M c1) M (lcells (O1 ++ [(s, V)])) rfl (HL.out.1.alloc _) wr.heap.size rfl x 0 (new_loss wr x 0).1 (new_loss wr x 0).2 (by omega) (by simp; omega) ?_; intro v3 w3 hown3 hg3; obtain ⟨A3, c3, hv3⟩ := own_form2 hown3; subst hv3; have b3 := Lib.hid ((HL.out.2.alloc HL.out.2.size _).grown hg3 (by simp; omega) (fun q hq => (HL.out.1.lt q hq).1)); have o3 := Lib.hid hown3; clear hown3 hg3)
              go_roundw
              case rel => exact ⟨k + 1, M + 1, A3, c3, by omega, by omega, by go_num, rfl, Lib.hid (by rw [HS2.out, HMm.out, Hm.out]; simp), Lib.hid ⟨by rw [HS2.out, lcells_snoc]; exact o3.out, b3.out⟩⟩
              case measure => simp [intOf]; omega
            · have hyes : 1 ≤ D ∧ D ≤ 16 := by have := Hd.out; rw [hd] at this; exact decide_eq_true_iff.1 this.symm
              have HS2 : Hid (lsL (L.take (k + 1)) = O1 ++ [(s, V)]) := Lib.hid (by
                rw [HSN.out, lsS_in O1 s bb x (by rw [← HD.out]; exact hyes.1) (by rw [← HD.out]; exact hyes.2), HV.out, if_pos hyes, HD.out])
              subst hd
              clear hyes HSN
              go_wp2
              go_roundw
              case rel => exact ⟨k + 1, M, _, c1, by omega, by omega, by go_num, rfl, Lib.hid (by rw [HS2.out, HMm.out, Hm.out]; simp), Lib.hid ⟨by rw [HS2.out]; exact HL.out.1, HL.out.2⟩⟩
              case measure => simp [intOf]; omega
    · obtain rfl : k = n := by omega
      rw [show L.take k = L by rw [← HR.out.1, List.take_length]] at HL HM
      have hm : M = (lsL L).length := HM.out
      subst hm
      go_wp2
      go_ret
      exact ⟨A1, c1, rfl, HL.out.1, HL.out.2⟩
end Go.Proofs.YtacaempcbdekaaaDoor

namespace Go.Proofs.YtacaempcbdekaaaDoor
open Go.RowKit Go.ChangeShapes Go.WideShapes Go.Deep
set_option linter.unusedVariables false

/-- Where a slice came in as a row of numbers that fit two bytes. -/
theorem RdH.of_row {w : World} {a : Option Addr} {len cap : Nat} {zs : List Int}
    (h : (a = none ∧ len = 0 ∧ cap = 0 ∧ zs = []) ∨
      ∃ x, a = some x ∧ len ≤ cap ∧ cap ≤ maxLen ∧ zs.length = cap ∧ (∀ i, i < zs.length → w.cell? (x.add i) = some (.int .u16 (zs.getD i 0))) ∧ ∀ n ∈ zs, (Lit.int .u16 n).wf = true) :
    ∃ L, RdH w a len L := by
  rcases h with ⟨rfl, rfl, rfl, rfl⟩ | ⟨x, rfl, hl, hm, hz, hc, hwz⟩
  · exact ⟨[], rfl, by omega, by simp, fun h => by omega⟩
  · refine ⟨(zs.take len).map Int.toNat, by simp; omega, by simp only [maxLen] at hm; omega, fun z hz' => ?_, fun hn => ?_⟩
    · obtain ⟨q, hq, rfl⟩ := List.mem_map.1 hz'
      have := bounds_u16 (hwz q (List.mem_of_mem_take hq))
      omega
    · obtain ⟨b, off, spot⟩ := x
      have h0 := hc 0 (by omega)
      have hs : spot = none := by simpa [Addr.add] using World.cell?_spot h0
      subst hs
      refine ⟨b, off, rfl, ?_, fun j hj => ?_⟩
      · have := World.block_lt_of_cell? w _ h0
        rw [add_at] at this
        exact this
      · have hcj := hc j (by omega)
        rw [add_at] at hcj
        have hjz : j < zs.length := by omega
        have hwj := bounds_u16 (hwz (zs[j]) (List.getElem_mem hjz))
        rw [hcj]
        simp only [List.getD, hjz, hj, List.getElem?_map, List.getElem?_take, if_true, List.getElem?_eq_getElem, Option.map_some, Option.getD_some]
        congr 2
        omega

def numOfV : Value → Nat
  | .int _ z => z.toNat
  | _ => 0
/-- Where losses came in. -/
theorem RdL.of_rdf {w : World} {A : Option Addr} {n : Nat} {rs : Nat → Nat → Value} (h : RdF [.int .u16, .int .u16] w A n rs) : ∃ L, RdL w A n L := by
  have hk : ∀ i, i < n → ∀ j, j < 2 → rs i j = .int .u16 ((numOfV (rs i j) : Nat) : Int) ∧ numOfV (rs i j) < 65536 := by
    intro i hi j hj
    have hkj : ([FK.int .u16, FK.int .u16] : List FK)[j]? = some (.int .u16) := by
      match j, hj with
      | 0, _ => rfl
      | 1, _ => rfl
    obtain ⟨z, hz, hw⟩ := h.2.1 i hi j _ hkj
    have := bounds_u16 hw
    rw [hz]
    refine ⟨?_, by simp only [numOfV]; omega⟩
    simp only [numOfV]
    congr 1
    omega
  refine ⟨(List.range n).map fun i => (numOfV (rs i 0), numOfV (rs i 1)), by simp, h.1, fun a ha => ?_, fun hn => ?_⟩
  · obtain ⟨i, hi, rfl⟩ := List.mem_map.1 ha
    have hi' := List.mem_range.1 hi
    exact ⟨(hk i hi' 0 (by omega)).2, (hk i hi' 1 (by omega)).2⟩
  · obtain ⟨b, off, hA, hlt, hc⟩ := h.2.2 hn
    refine ⟨b, off, hA, hlt, fun j hj => ?_⟩
    have e : ((List.range n).map fun i => (numOfV (rs i 0), numOfV (rs i 1))).getD j (0, 0) = (numOfV (rs j 0), numOfV (rs j 1)) := by
      simp [List.getD, hj]
    rw [e]
    have c0 := hc j hj 0 (by simp)
    have c1 := hc j hj 1 (by simp)
    simp only [List.length_cons, List.length_nil] at c0 c1
    rw [(hk j hj 0 (by omega)).1] at c0
    rw [(hk j hj 1 (by omega)).1] at c1
    refine ⟨?_, ?_⟩
    · rw [show off + j * 2 = off + (j * (0 + 1 + 1) + 0) by omega]; exact c0
    · rw [show off + j * 2 + 1 = off + (j * (0 + 1 + 1) + 1) by omega]; exact c1
/-- The call's own losses read as losses. -/
theorem RdL.of_own {w : World} {base : Nat} {e : TypeId} {A : Option Addr} {n c : Nat} {L : List (Nat × Nat)} (h : w.ownsRow base e 2 (.slice A n c) n (lcells L)) (hf : ∀ a ∈ L, a.1 < 65536 ∧ a.2 < 65536) : RdL w A n L := by
  have hl : L.length = n := by have := h.1; rw [lcells_len] at this; omega
  have hat := h
  rcases h.2 with ⟨hv, hn⟩ | ⟨g, cap, cur, hv, hb, hg, hnc, hcm, hcs, htake⟩
  · exact ⟨hl, by omega, hf, fun h => absurd h (by omega)⟩
  · injection hv with h1 h2 h3
    subst h1; subst h3
    refine ⟨hl, by simp only [maxLen] at hcm; omega, hf, fun hn => ⟨g, 0, rfl, (Array.getElem?_eq_some_iff.1 hg).1, fun j hj => ?_⟩⟩
    have hjl : j < L.length := by omega
    have hcut : L = L.take j ++ ([L.getD j (0, 0)] ++ L.drop (j + 1)) := by
      rw [show [L.getD j (0, 0)] ++ L.drop (j + 1) = L.drop j by
        rw [List.drop_eq_getElem_cons hjl, List.getD, List.getElem?_eq_getElem hjl]; rfl]
      exact (List.take_append_drop j L).symm
    have hx : ∀ d, d < 2 → (lcells L)[j * 2 + d]? = ([.int .u16 (((L.getD j (0, 0)).1 : Nat) : Int), .int .u16 (((L.getD j (0, 0)).2 : Nat) : Int)] : List Value)[d]? := by
      intro d hd
      have e : lcells L = lcells (L.take j) ++ ([.int .u16 (((L.getD j (0, 0)).1 : Nat) : Int), .int .u16 (((L.getD j (0, 0)).2 : Nat) : Int)] ++ lcells (L.drop (j + 1))) := by
        conv => lhs; rw [hcut]
        simp [lcells]
      have ht : (lcells (L.take j)).length = j * 2 := by rw [lcells_len, List.length_take]; omega
      rw [e, List.getElem?_append_right (by omega), ht, Nat.add_sub_cancel_left, List.getElem?_append_left (by simpa using hd)]
    have c0 := (hat.cellAt (j * 2) (by omega)).trans ((hx 0 (by omega)).trans rfl)
    have c1 := (hat.cellAt (j * 2 + 1) (by omega)).trans ((hx 1 (by omega)).trans rfl)
    rw [Nat.zero_add]
    exact ⟨c0, c1⟩
/-- The call's own numbers read as numbers. -/
theorem RdH.of_own {w : World} {base : Nat} {e : TypeId} {A : Option Addr} {n c : Nat} {L : List Nat} (h : w.ownsRow base e 1 (.slice A n c) n (hcells L)) (hf : ∀ a ∈ L, a < 65536) : RdH w A n L := by
  have hl : L.length = n := by simpa [hcells_len] using h.1
  have hat := h
  rcases h.2 with ⟨hv, hn⟩ | ⟨g, cap, cur, hv, hb, hg, hnc, hcm, hcs, htake⟩
  · exact ⟨hl, by omega, hf, fun h => absurd h (by omega)⟩
  · injection hv with h1 h2 h3
    subst h1; subst h3
    refine ⟨hl, by simp only [maxLen] at hcm; omega, hf, fun hn => ⟨g, 0, rfl, (Array.getElem?_eq_some_iff.1 hg).1, fun j hj => ?_⟩⟩
    rw [Nat.zero_add, hat.cellAt j (by omega), hcells_at (by omega)]
end Go.Proofs.YtacaempcbdekaaaDoor

namespace Go.Proofs.YtacaempcbdekaaaDoor
open Go.RowKit
set_option linter.unusedVariables false

theorem rowLoss {cs : List Value} (h : cs.length = 2) : RowTy Tryd.prog 41 cs.length := by
  rw [h]; exact ⟨_, Tryd.underlying41, rfl, by kernel_rfl⟩
theorem shr16 (B j : Nat) (hB : B < 65536) (hj : j ≤ 16) : Op.shift .shr .u16 (B : Int) .u16 (j : Int) = pure (.int .u16 ((B / 2 ^ j : Nat) : Int)) := by
  have h0 : ¬ ((j : Int) < 0) := by omega
  unfold Op.shift
  rw [if_neg h0]
  simp only [Int.toNat_natCast, IntKind.bits]
  rw [Nat.min_eq_left (by omega)]
  obtain ⟨y, hy⟩ : ∃ y, y = 2 ^ j := ⟨_, rfl⟩
  have e : (2 : Int) ^ j = (y : Int) := by rw [hy]; simp
  have h2 : B / y < 65536 := Nat.lt_of_le_of_lt (Nat.div_le_self _ _) hB
  simp only [e, ← hy]
  congr 2
  rw [Int.fdiv_eq_ediv_of_nonneg _ (by omega)]
  simp

theorem and_one (B j : Nat) (hB : B < 65536) : bits BinOp.and IntKind.u16 ((B : Int) / 2 ^ j) 1 = ((B / 2 ^ j % 2 : Nat) : Int) := by
  have e : (B : Int) / 2 ^ j = ((B / 2 ^ j : Nat) : Int) := by
    rw [Int.natCast_ediv]; simp
  rw [e]
  have h2 : B / 2 ^ j < 65536 := Nat.lt_of_le_of_lt (Nat.div_le_self _ _) hB
  obtain ⟨X, hX⟩ : ∃ X, X = B / 2 ^ j := ⟨_, rfl⟩
  rw [← hX] at h2 ⊢
  have h3 : X &&& 1 = X % 2 := Nat.and_one_is_mod X
  rw [show (1 : Int) = ((1 : Nat) : Int) from rfl, u16_and_nat X 1 h2 (by decide), h3]
theorem own_ne {w : World} {base s n p : Nat} {e e' : TypeId} {v : Value} {xs cs : List Value} (h : w.ownsRow base e s v n xs) (hB : BlkV w p e' cs) (hne : e ≠ e') : v.ownBlock ≠ some p := by
  intro hq
  rcases h.2 with ⟨rfl, _⟩ | ⟨g, cap, cur, rfl, _, hg, _⟩
  · simp [Value.ownBlock] at hq
  · simp [Value.ownBlock] at hq
    subst hq
    rw [hB] at hg
    simp at hg
    exact hne hg.2.symm
def lc2 (S B : Nat) : List Value := [.int .u16 (S : Int), .int .u16 (B : Int)]
abbrev lz2 : List Value := [.int .u16 0, .int .u16 0]
theorem fit2 {S B : Nat} : 0 + (lc2 S B).length ≤ lz2.length := Nat.le_refl 2
theorem lc2_one (S B : Nat) : ∀ v ∈ lc2 S B, v.oneCell' = true := by intro v hv; simp [lc2] at hv; rcases hv with rfl | rfl <;> rfl

set_option maxRecDepth 100000 in
set_option maxHeartbeats 400000 in
theorem nacked_any (A : Option Addr) (n c : Nat) (L : List (Nat × Nat)) (w : World) (h : RdL w A n L) (hn : n ≤ 1000) :
    Calls Tryd.prog 14 #[.slice A n c] w fun e w' => ∃ A' c', e = .returned (.slice A' (nkL L).length c') ∧ w'.ownsRow w.heap.size 39 1 (.slice A' (nkL L).length c') (nkL L).length (hcells (nkL L)) ∧ Below w.heap.size w w' := by
  have HR := Lib.hid h
  have hz := zeroLoss
  clear h
  go_enter Tryd.func14, Tryd.ntmps14
  go_wp2
  go_loopw [3, 9] (fun v i wr => ∃ (k M : Nat) (A' : Option Addr) (c' : Nat), k ≤ n ∧ M ≤ 17 * k ∧ i = .int .i64 k ∧ v = .slice A' M c' ∧ Hid (wr.ownsRow w.heap.size 39 1 (.slice A' M c') M (hcells (nkL (L.take k))) ∧ Below w.heap.size w wr)) (fun _ i _ => n - (intOf i).toNat)
  case atStart => exact ⟨0, 0, none, 0, by omega, by omega, rfl, rfl, Lib.hid ⟨World.ownsRow_nil w _ _ _, Below.refl _ _⟩⟩
  case round =>
    obtain ⟨k, M, A1, c1, hk, hM, rfl, rfl, HL⟩ := hrel
    by_cases hkn : k < n
    · obtain ⟨b, off, rfl, hlt, hc⟩ := HR.out.2.2.2 (by omega)
      obtain ⟨q1, q2⟩ := hc k hkn
      have hmem : L.getD k (0, 0) ∈ L := by
        have : k < L.length := by rw [HR.out.1]; exact hkn
        simp [List.getD, this]
      obtain ⟨hs1, hs2⟩ := HR.out.2.2.1 _ hmem
      have hsn : L.take (k + 1) = L.take k ++ [L.getD k (0, 0)] := by
        have : k < L.length := by rw [HR.out.1]; exact hkn
        rw [List.take_add_one, List.getD, List.getElem?_eq_getElem this]; rfl
      obtain ⟨x, hx⟩ : ∃ x, x = L.getD k (0, 0) := ⟨_, rfl⟩
      rw [← hx] at q1 q2 hs1 hs2 hsn
      clear hx hmem hc
      obtain ⟨S, B⟩ := x
      simp only at q1 q2 hs1 hs2
      have HG : Hid (wr.rangeAt b (off + k * 2) (lc2 S B)) := Lib.hid (by
        intro j v hv
        unfold lc2 at hv
        match j, hv with
        | 0, hv => simp at hv; subst hv; exact (HL.out.2.cell (p := ⟨b, off + k * 2, none⟩) hlt).trans q1
        | 1, hv => simp at hv; subst hv; exact (HL.out.2.cell (p := ⟨b, off + k * 2 + 1, none⟩) hlt).trans q2
        | j + 2, hv => simp at hv)
      have HSN := Lib.hid hsn
      obtain ⟨T, hT⟩ : ∃ T, T = nkL (L.take k) := ⟨_, rfl⟩
      rw [← hT] at HL
      have HT := Lib.hid hT
      clear q1 q2 hsn hT
      have hsz := HL.out.2.size
      go_wp2_with (first
        | (with_reducible refine wpList_ld rfl 41 (.tmp 11) rfl b (off + k * 2) rfl (lc2 S B) HG.out (rowLoss rfl) ?_)
        | ((refine wpList_st rfl 41 (.tmp 5) (.tmp 12) rfl wr.heap.size 0 (lc2 S B) rfl (by with_unfolding_all rfl) 41 lz2 (BlkV.new wr _ _) fit2 (rowLoss rfl) (lc2_one S B) ?_); intro w1 hB1 ho1; rw [splice_all _ _ (by rfl)] at hB1; have c10 : w1.cell? ⟨wr.heap.size, 0, none⟩ = some (.int .u16 (S : Int)) := (hB1.cell 0).trans rfl; have o1 := Lib.hid ((HL.out.1.alloc (.cells #[.int .u16 0, .int .u16 0] 41)).kept ho1.grown (.inr (fun e => by have := (HL.out.1.lt _ e).2; omega))); have b1 : Hid (Below w.heap.size w w1) := Lib.hid ((HL.out.2.alloc HL.out.2.size _).trans (ho1.below HL.out.2.size)); have hsz1 : w.heap.size ≤ w1.heap.size := b1.out.size; clear ho1)
        | (at_builtin; refine wpList_app1 _ rfl (.tmp 13) (.tmp 16) rfl Tryd.underlying36 u16_inf rfl (by omega) w.heap.size (.slice A1 M c1) M (hcells T) rfl (o1.out.alloc _) ⟨w1.heap.size, 0, none⟩ 1 rfl (.int .u16 (S : Int)) (cell_one_new _ _ _ 0 _ rfl) rfl (by omega) (by simp; omega) ?_; intro v2 w2 hown2 hg2 hat2 _; obtain ⟨A2, c2, hv2⟩ := own_form hown2; subst hv2; have b2 : Hid (Below w.heap.size w w2) := Lib.hid ((b1.out.alloc b1.out.size _).grown hg2 (by simp; omega) (fun q hq => (o1.out.lt q hq).1)); have o2 := Lib.hid hown2; have k2 := Lib.hid ((hB1.alloc _).grown hg2 (fun e => own_ne o1.out hB1 (by decide) e.symm)); clear hown2 hg2 hat2))
      rw [show hcells T ++ [Value.int IntKind.u16 (S : Int)] = hcells (T ++ S :: nkT S B 0) by rw [← hcells_snoc]; rfl] at o2
      obtain ⟨p, hp⟩ : ∃ p, p = wr.heap.size := ⟨_, rfl⟩
      rw [← hp] at k2
      simp only [← hp]
      clear hB1 c10 o1 b1 hp
      go_loopw [3, 18] (fun v vk wx => ∃ (j M2 : Nat) (A2 : Option Addr) (c2 : Nat), j ≤ 16 ∧ M2 ≤ M + 1 + j ∧ vk = .int .u16 (j : Int) ∧ v = .slice A2 M2 c2 ∧ Hid (wx.ownsRow w.heap.size 39 1 (.slice A2 M2 c2) M2 (hcells (T ++ S :: nkT S B j)) ∧ Below w.heap.size w wx ∧ BlkV wx p 41 (lc2 S B))) (fun _ vk _ => 16 - (intOf vk).toNat)
      case atStart => exact ⟨0, M + 1, A2, c2, by omega, by omega, rfl, rfl, Lib.hid ⟨o2.out, b2.out, k2.out⟩⟩
      case round =>
        obtain ⟨j, M2, A2, c2, hj, hM2, rfl, rfl, HL2⟩ := hrel
        clear o2 b2 k2 HL
        have c0 : wr.cell? ⟨p, 0, none⟩ = some (.int .u16 (S : Int)) := (HL2.out.2.2.cell 0).trans rfl
        have c1' : wr.cell? ⟨p, 1, none⟩ = some (.int .u16 (B : Int)) := (HL2.out.2.2.cell 1).trans rfl
        have hsz2 := HL2.out.2.1.size
        have hsh := shr16 B j hs2 hj
        obtain ⟨X, hX⟩ : ∃ X, X = B / 2 ^ j := ⟨_, rfl⟩
        have hand := and_one B j hs2
        rw [← hX] at hsh hand
        have hX2 : X < 65536 := by rw [hX]; exact Nat.lt_of_le_of_lt (Nat.div_le_self _ _) hs2
        have HB := Lib.hid (bit_of B j X hX)
        have HNT := Lib.hid (nkT_succ S B j)
        clear hX
        by_cases hj16 : j < 16
        · by_cases hb : X % 2 = 1
          · have e1 : IntKind.u16.wrap ((j : Int) + 1) = (j : Int) + 1 := by rw [IntKind.wrap_u16]; omega
            obtain ⟨Y, hY⟩ : ∃ Y, Y = (S + j + 1) % 65536 := ⟨_, rfl⟩
            obtain ⟨S1, hS1⟩ : ∃ S1, S1 = (S + 1) % 65536 := ⟨_, rfl⟩
            have e2 : IntKind.u16.wrap ((S : Int) + 1) = (S1 : Int) := by rw [IntKind.wrap_u16, hS1]; omega
            have e3 : IntKind.u16.wrap ((S1 : Int) + (j : Int)) = (Y : Int) := by rw [IntKind.wrap_u16, hY, hS1]; omega
            have hq : (bits BinOp.and IntKind.u16 ((B : Int) / 2 ^ j) 1 == 1) = true := by rw [hand]; simp; omega
            have HN2 : Hid (T ++ S :: nkT S B (j + 1) = (T ++ S :: nkT S B j) ++ [Y]) := Lib.hid (by
              rw [HNT.out, HB.out, hY]; simp [hb])
            clear hY hS1 hand
            go_wp2_with (at_builtin; refine wpList_app1 _ rfl (.tmp 27) (.tmp 33) rfl Tryd.underlying36 u16_inf rfl (by omega) w.heap.size (.slice A2 M2 c2) M2 (hcells (T ++ S :: nkT S B j)) rfl (HL2.out.1.alloc _) ⟨wr.heap.size, 0, none⟩ 1 rfl (.int .u16 (Y : Int)) (cell_one_new _ _ _ 0 _ rfl) rfl (by omega) (by simp; omega) ?_; intro v3 w3 hown3 hg3 hat3 _; obtain ⟨A3, c3, hv3⟩ := own_form hown3; subst hv3; have h3 := Lib.hid (show w3.ownsRow w.heap.size 39 1 (.slice A3 (M2 + 1) c3) (M2 + 1) (hcells (T ++ S :: nkT S B (j + 1))) ∧ Below w.heap.size w w3 ∧ BlkV w3 p 41 (lc2 S B) from ⟨by rw [HN2.out, hcells_snoc]; exact hown3, (HL2.out.2.1.alloc HL2.out.2.1.size _).grown hg3 (by simp; omega) (fun q hq => (HL2.out.1.lt q hq).1), (HL2.out.2.2.alloc _).grown hg3 (fun e => own_ne HL2.out.1 HL2.out.2.2 (by decide) e.symm)⟩); clear hown3 hg3 hat3)
            go_roundw
            case rel => exact ⟨j + 1, M2 + 1, A3, c3, by omega, by omega, by go_num, rfl, h3⟩
            case measure => simp [intOf]; omega
          · have HN2 : Hid (T ++ S :: nkT S B (j + 1) = T ++ S :: nkT S B j) := Lib.hid (by rw [HNT.out, HB.out]; simp [hb])
            have e1 : IntKind.u16.wrap ((j : Int) + 1) = (j : Int) + 1 := by rw [IntKind.wrap_u16]; omega
            have hq : (bits BinOp.and IntKind.u16 ((B : Int) / 2 ^ j) 1 == 1) = false := by rw [hand]; simp; omega
            clear hand
            have h3 := Lib.hid (show wr.ownsRow w.heap.size 39 1 (.slice A2 M2 c2) M2 (hcells (T ++ S :: nkT S B (j + 1))) ∧ Below w.heap.size w wr ∧ BlkV wr p 41 (lc2 S B) from ⟨by rw [HN2.out]; exact HL2.out.1, HL2.out.2⟩)
            go_wp2
            go_roundw
            case rel => exact ⟨j + 1, M2, A2, c2, by omega, by omega, by go_num, rfl, h3⟩
            case measure => simp [intOf]; omega
        · have hje : j = 16 := by omega
          have hn2 : nkL (L.take (k + 1)) = T ++ S :: nkT S B 16 := by
            rw [HSN.out, nkL_snoc, ← HT.out]; rfl
          have h3 := Lib.hid (show wr.ownsRow w.heap.size 39 1 (.slice A2 M2 c2) M2 (hcells (nkL (L.take (k + 1)))) ∧ Below w.heap.size w wr from ⟨by rw [hn2, ← hje]; exact HL2.out.1, HL2.out.2.1⟩)
          clear hn2
          go_wp2
          go_roundw
          case rel => exact ⟨k + 1, M2, A2, c2, by omega, by omega, by go_num, rfl, h3⟩
          case measure => simp [intOf]; omega
    · obtain rfl : k = n := by omega
      rw [show L.take k = L by rw [← HR.out.1, List.take_length]] at HL
      have hm : M = (nkL L).length := by have := HL.out.1.1; rw [hcells_len] at this; omega
      subst hm
      go_wp2
      go_ret
      exact ⟨A1, c1, rfl, HL.out.1, HL.out.2⟩
end Go.Proofs.YtacaempcbdekaaaDoor

namespace Go.Proofs.YtacaempcbdekaaaDoor
open Go.RowKit
set_option linter.unusedVariables false

theorem half_of2 (b j x : Nat) (h : x = b / 2 ^ j) : x / 2 = b / 2 ^ (j + 1) := by rw [h, Nat.div_div_eq_div_mul, Nat.pow_succ]

set_option maxRecDepth 100000 in
set_option maxHeartbeats 1000000 in
theorem rrate_any (x : Nat) (w : World) (hx : x < 18446744073709551616) : Calls Tryd.prog 21 #[.int .u64 (x : Int)] w fun r w' => (∃ e : Nat, r = .returned (.tuple #[.int .u64 ((x / 2 ^ e : Nat) : Int), .int .i64 (e : Int)]) ∧ x / 2 ^ e < 262144 ∧ (e = 0 ∨ 262144 ≤ x / 2 ^ (e - 1))) ∧ w = w' := by
  go_enter Tryd.func21, Tryd.ntmps21
  go_wp2
  go_loopw [0, 4] (fun vx ve wr => wr = w ∧ ∃ e y : Nat, vx = .int .u64 (y : Int) ∧ ve = .int .i64 (e : Int) ∧ y ≤ x ∧ e + y ≤ x + 1 ∧ e ≤ 64 ∧ Hid (y = x / 2 ^ e) ∧ Hid (e = 0 ∨ 262144 ≤ x / 2 ^ (e - 1))) (fun vx _ _ => (intOf vx).toNat)
  case atStart => exact ⟨rfl, 0, x, rfl, rfl, by omega, by omega, by omega, Lib.hid (by simp), Lib.hid (.inl rfl)⟩
  case round =>
    obtain ⟨rfl, e, y, rfl, rfl, hyx, hey, he, HY, HE⟩ := hrel
    by_cases hy : (262144 : Int) ≤ (y : Int)
    · have he47 : e < 47 := by
        have h1 := HY.out
        by_cases h : 47 ≤ e
        · have h2 : (2 : Nat) ^ 47 ≤ 2 ^ e := Nat.pow_le_pow_right (by omega) h
          have h3 : x / 2 ^ e ≤ x / 2 ^ 47 := Nat.div_le_div_left h2 (by decide)
          have h4 : x / 2 ^ 47 < 262144 := by omega
          omega
        · omega
      have HY2 := Lib.hid (half_of2 x e y HY.out)
      have HE2 : Hid (e + 1 = 0 ∨ 262144 ≤ x / 2 ^ (e + 1 - 1)) := Lib.hid (.inr (by rw [Nat.add_sub_cancel, ← HY.out]; omega))
      have HF := Lib.hid (show y ≤ x ∧ e + y ≤ x + 1 ∧ y < 18446744073709551616 from ⟨hyx, hey, by omega⟩)
      obtain ⟨Y, hY⟩ : ∃ Y, Y = y / 2 := ⟨_, rfl⟩
      have e5 : IntKind.u64.wrap ((y : Int) / 2) = (Y : Int) := by rw [IntKind.wrap_u64, hY]; omega
      have HYY := Lib.hid hY
      rw [← hY] at HY2
      clear hyx hey he hx hY
      go_wp2
      go_roundw
      case rel => have hF := HF.out; have hYY := HYY.out; exact ⟨by trivial, e + 1, Y, rfl, by go_num, by omega, by omega, by omega, HY2, HE2⟩
      case measure => have hYY := HYY.out; simp [intOf]; omega
    · clear hyx hey he hx
      go_wp2
      go_ret2
      exact ⟨⟨e, by have h := HY.out; subst h; rfl, by rw [← HY.out]; omega, HE.out⟩, rfl⟩
end Go.Proofs.YtacaempcbdekaaaDoor

namespace Go.Proofs.YtacaempcbdekaaaDoor
open Go.RowKit
set_option linter.unusedVariables false

theorem nk1_fit (x : Nat × Nat) (h : x.1 < 65536) : ∀ y ∈ nk1 x, y < 65536 := by
  intro y hy
  unfold nk1 nkT at hy
  rcases List.mem_cons.1 hy with rfl | hy
  · exact h
  · obtain ⟨k, _, hk⟩ := List.mem_filterMap.1 hy
    split at hk
    · injection hk with hk; omega
    · cases hk
theorem nkL_fit (l : List (Nat × Nat)) (h : ∀ a ∈ l, a.1 < 65536 ∧ a.2 < 65536) : ∀ y ∈ nkL l, y < 65536 := by
  intro y hy
  obtain ⟨a, ha, hya⟩ := List.mem_flatMap.1 hy
  exact nk1_fit a (h a ha).1 y hya
/-- A slice of numbers that isn't empty, read at a place in whatever world comes later. -/
theorem RdH.at_ {w : World} {A : Option Addr} {n : Nat} {L : List Nat} (h : RdH w A n L) (hn : 0 < n) : ∃ b off, A = some ⟨b, off, none⟩ ∧ ∀ wx, Below w.heap.size w wx → ∀ j, j < n → wx.cell? ⟨b, off + j, none⟩ = some (.int .u16 ((L.getD j 0 : Nat) : Int)) := by
  obtain ⟨b, off, hA, hlt, hc⟩ := h.2.2.2 hn
  exact ⟨b, off, hA, fun wx hb j hj => (hb.cell (p := ⟨b, off + j, none⟩) hlt).trans (hc j hj)⟩
theorem RdL.at_ {w : World} {A : Option Addr} {n : Nat} {L : List (Nat × Nat)} (h : RdL w A n L) (hn : 0 < n) : ∃ b off, A = some ⟨b, off, none⟩ ∧ ∀ wx, Below w.heap.size w wx → ∀ j, j < n → wx.cell? ⟨b, off + j * 2, none⟩ = some (.int .u16 (((L.getD j (0, 0)).1 : Nat) : Int)) ∧ wx.cell? ⟨b, off + j * 2 + 1, none⟩ = some (.int .u16 (((L.getD j (0, 0)).2 : Nat) : Int)) := by
  obtain ⟨b, off, hA, hlt, hc⟩ := h.2.2.2 hn
  exact ⟨b, off, hA, fun wx hb j hj => ⟨(hb.cell (p := ⟨b, off + j * 2, none⟩) hlt).trans (hc j hj).1, (hb.cell (p := ⟨b, off + j * 2 + 1, none⟩) hlt).trans (hc j hj).2⟩⟩
/-- The first i numbers rise. -/
def riseTo (l : List Nat) (i : Nat) : Prop := ∀ j, j + 1 < i → l.getD j 0 < l.getD (j + 1) 0
theorem riseTo_one (l : List Nat) : riseTo l 1 := fun j hj => absurd hj (by omega)
theorem riseTo_succ (l : List Nat) (i : Nat) (h : 1 ≤ i) : riseTo l (i + 1) ↔ riseTo l i ∧ l.getD (i - 1) 0 < l.getD i 0 := by
  constructor
  · intro hr
    refine ⟨fun j hj => hr j (by omega), ?_⟩
    have := hr (i - 1) (by omega)
    rw [show i - 1 + 1 = i by omega] at this
    exact this
  · intro hr j hj
    rcases Nat.lt_or_ge (j + 1) i with h1 | h1
    · exact hr.1 j h1
    · obtain rfl : j = i - 1 := by omega
      rw [show i - 1 + 1 = i by omega]
      exact hr.2
theorem draws (wx : World) (n : Nat) {B : Nat} {w : World} (h : Below B w wx) : Below B w (wx.drewN n) := h.trans ⟨rfl, rfl, rfl, Nat.le_refl _, fun _ _ => rfl⟩

/-- What Nacked of a package tells. -/
def TellsN (f : FuncId) : Prop := ∀ (A : Option Addr) (n c : Nat) (L : List (Nat × Nat)) (w : World), RdL w A n L → n ≤ 1000 → Calls Tryd.prog f #[.slice A n c] w fun e w' => ∃ A' c', e = .returned (.slice A' (nkL L).length c') ∧ w'.ownsRow w.heap.size 39 1 (.slice A' (nkL L).length c') (nkL L).length (hcells (nkL L)) ∧ Below w.heap.size w w'
/-- What Losses of a package tells. -/
def TellsL (f : FuncId) : Prop := ∀ (A : Option Addr) (n c : Nat) (L : List Nat) (w : World), RdH w A n L → n ≤ 1000 → Calls Tryd.prog f #[.slice A n c] w fun e w' => ∃ A' c', e = .returned (.slice A' (lsL L).length c') ∧ w'.ownsRow w.heap.size 41 2 (.slice A' (lsL L).length c') (lsL L).length (lcells (lsL L)) ∧ Below w.heap.size w w'
def Alive (w : World) : Prop := Calls Tryd.prog 6 #[] w fun e w' => e = .returned (.bool true) ∧ Below w.heap.size w w'

set_option maxRecDepth 100000 in
set_option maxHeartbeats 4000000 in
theorem rtcpLosses_big {w : World} (HA : Alive w) (a0 : Option Addr) (n0 c0 : Nat) (a1 : Option Addr) (n1 c1 : Nat) (hbig : ¬ (n0 ≤ 60 ∧ n1 ≤ 200)) :
    Calls Tryd.prog 5 #[.slice a0 n0 c0, .slice a1 n1 c1] w fun e w' => e = .returned (.bool true) ∧ Below w.heap.size w w' := by
  have HA : Hid (Calls Tryd.prog 6 #[] w fun e w' => e = .returned (.bool true) ∧ Below w.heap.size w w') := Lib.hid HA
  have hway : 60 < n0 ∨ (n0 ≤ 60 ∧ 200 < n1) := by omega
  clear hbig
  rcases hway with g1 | ⟨g1, g2⟩
  · go_enter Tryd.func5, Tryd.ntmps5
    go_wp2_with (go_at_call 6; ((with_reducible refine (Hid.out HA).mono ?_); rintro e w1 ⟨rfl, hb1⟩))
    go_ret
    exact ⟨rfl, hb1⟩
  · go_enter Tryd.func5, Tryd.ntmps5
    go_wp2_with (go_at_call 6; ((with_reducible refine (Hid.out HA).mono ?_); rintro e w1 ⟨rfl, hb1⟩))
    go_ret
    exact ⟨rfl, hb1⟩

set_option maxRecDepth 100000 in
set_option maxHeartbeats 4000000 in
theorem rtcpLosses_core {w : World} (HA : Alive w) (HN : TellsN 14) (HN2 : TellsN 15) (HL : TellsL 16) (HL2 : TellsL 17)
    (a0 : Option Addr) (n0 c0 : Nat) (L : List (Nat × Nat)) (a1 : Option Addr) (n1 c1 : Nat) (T : List Nat) (h0 : RdL w a0 n0 L) (h1 : RdH w a1 n1 T) (g1 : n0 ≤ 60) (g2 : n1 ≤ 200) :
    Calls Tryd.prog 5 #[.slice a0 n0 c0, .slice a1 n1 c1] w fun e w' => e = .returned (.bool true) ∧ Below w.heap.size w w' := by
  have HA : Hid (Calls Tryd.prog 6 #[] w fun e w' => e = .returned (.bool true) ∧ Below w.heap.size w w') := Lib.hid HA
  obtain ⟨M, hM⟩ : ∃ M, M = (nkL L).length := ⟨_, rfl⟩
  obtain ⟨K, hK⟩ : ∃ K, K = (lsL T).length := ⟨_, rfl⟩
  have lM : M ≤ 1020 := by have h3 := nkL_len L; have h2 := h0.1; omega
  have lK : K ≤ 200 := by have h3 := lsL_len T; have h2 := h1.1; omega
  have C1 := Lib.hid (fun wx hx => HN a0 n0 c0 L wx hx (by omega))
  have C2 := Lib.hid (fun wx hx => HN2 a0 n0 c0 L wx hx (by omega))
  have C3 := Lib.hid (fun wx hx => HL a1 n1 c1 T wx hx (by omega))
  have C4 := Lib.hid (fun wx hx => HL2 a1 n1 c1 T wx hx (by omega))
  have C5 := Lib.hid (fun A c wx hx => HN A K c (lsL T) wx hx (by omega))
  have FN := Lib.hid (nkL_fit L h0.2.2.1)
  have FL := Lib.hid (lsL_fit T h1.2.2.1)
  have FB := Lib.hid (nkL_fit (lsL T) (lsL_fit T h1.2.2.1))
  have HT := Lib.hid h1.2.2.1
  have HTn := Lib.hid h1.1
  have LB := nkL_len (lsL T)
  rw [← hK] at LB
  rw [← hM] at C1 C2
  rw [← hK] at C3 C4
  have H0 := Lib.hid h0
  have H1 := Lib.hid h1
  clear hM hK h0 h1 HN HN2 HL HL2
  go_enter Tryd.func5, Tryd.ntmps5
  go_wp2_with (first
    | (go_at_call 6; ((with_reducible refine (Hid.out HA).mono ?_); rintro e w1 ⟨rfl, hb1⟩; have f1 := Lib.hid hb1; clear hb1))
    | (go_at_call 14; ((with_reducible refine (Hid.out C1 _ (H0.out.below f1.out)).mono ?_); rintro e w2 ⟨A5, q5, rfl, ho2, hb2⟩; have f2 := Lib.hid (f1.out.trans (hb2.mono f1.out.size)); have o5 := Lib.hid (RdH.of_own ho2 FN.out); clear hb2 ho2))
    | (go_at_call 15; ((with_reducible refine (Hid.out C2 _ (H0.out.below f2.out)).mono ?_); rintro e w3 ⟨A6, q6, rfl, ho3, hb3⟩; have f3 := Lib.hid (f2.out.trans (hb3.mono f2.out.size)); have o6 := Lib.hid (RdH.of_own ho3 FN.out); have p5 := Lib.hid (o5.out.below hb3); clear hb3 ho3))
    | (go_at_call 16; ((with_reducible refine (Hid.out C3 _ (H1.out.below f3.out)).mono ?_); rintro e w4 ⟨A7, q7, rfl, ho4, hb4⟩; have f4 := Lib.hid (f3.out.trans (hb4.mono f3.out.size)); have o7 := Lib.hid (RdL.of_own ho4 FL.out); have p6 := Lib.hid (o6.out.below hb4); have r5 := Lib.hid (p5.out.below hb4); clear hb4 ho4))
    | (go_at_call 17; ((with_reducible refine (Hid.out C4 _ (H1.out.below f4.out)).mono ?_); rintro e w5 ⟨A8, q8, rfl, ho5, hb5⟩; have f5 := Lib.hid (f4.out.trans (hb5.mono f4.out.size)); have s8 := Lib.hid (RdL.of_own ho5 FL.out); have s7 := Lib.hid (o7.out.below hb5); have s6 := Lib.hid (p6.out.below hb5); have s5 := Lib.hid (r5.out.below hb5); clear hb5 ho5)))
  have b5 := Lib.hid (Below.refl w5.heap.size w5)
  go_loopw [9] (fun i wx => ∃ k : Nat, k ≤ M ∧ i = .int .i64 k ∧ Hid (Below w5.heap.size w5 wx)) (fun i _ => M - (intOf i).toNat)
  case atStart => exact ⟨0, by omega, rfl, b5⟩
  case round =>
    obtain ⟨k, hk, rfl, HB⟩ := hrel
    by_cases hkn : k < M
    · obtain ⟨x5, y5, rfl, e5⟩ := s5.out.at_ (by omega)
      obtain ⟨x6, y6, rfl, e6⟩ := s6.out.at_ (by omega)
      have t5 := e5 wr HB.out k hkn
      have t6 := e6 wr HB.out k hkn
      clear e5 e6
      go_wp2
      go_quiet (fail)
      have h3 := Lib.hid (draws wr nq HB.out)
      generalize wr.drewN nq = wq at h3 ⊢
      go_wp2
      go_roundw
      case rel => exact ⟨k + 1, by omega, by go_num, h3⟩
      case measure => simp [intOf]; omega
    · have hke : k = M := by omega
      subst hke
      go_wp2
      go_loopw [11] (fun i wx => ∃ k : Nat, k ≤ K ∧ i = .int .i64 k ∧ Hid (Below w5.heap.size w5 wx)) (fun i _ => K - (intOf i).toNat)
      case atStart => exact ⟨0, by omega, rfl, HB⟩
      case round =>
        clear HB
        obtain ⟨k2, hk2, rfl, HB⟩ := hrel
        by_cases hkn2 : k2 < K
        · obtain ⟨x7, y7, rfl, e7⟩ := s7.out.at_ (by omega)
          obtain ⟨x8, y8, rfl, e8⟩ := s8.out.at_ (by omega)
          obtain ⟨t7, t7'⟩ := e7 wr HB.out k2 hkn2
          obtain ⟨t8, t8'⟩ := e8 wr HB.out k2 hkn2
          clear e7 e8
          go_wp2
          go_quiet (fail)
          have h3 := Lib.hid (draws wr nq HB.out)
          generalize wr.drewN nq = wq at h3 ⊢
          go_wp2
          go_roundw
          case rel => exact ⟨k2 + 1, by omega, by go_num, h3⟩
          case measure => simp [intOf]; omega
        · have hke2 : k2 = K := by omega
          subst hke2
          go_wp2
          have HT5 := Lib.hid (H1.out.below f5.out)
          go_loopw [10, 12] (fun vd vi wx => ∃ (i : Nat) (d : Bool), 1 ≤ i ∧ (i ≤ n1 ∨ i = 1) ∧ vd = .bool d ∧ vi = .int .i64 i ∧ Hid (d = true ↔ riseTo T i) ∧ Hid (Below w5.heap.size w5 wx)) (fun _ vi _ => n1 - (intOf vi).toNat)
          case atStart => exact ⟨1, true, by omega, .inr rfl, rfl, rfl, Lib.hid (by simp [riseTo_one]), HB⟩
          case round =>
            clear HB
            obtain ⟨i, d, hi1, hi2, rfl, rfl, Hd, HB⟩ := hrel
            by_cases hin : i < n1
            · have HS := Lib.hid (riseTo_succ T i hi1)
              cases hd : d
              · subst hd
                have Hd2 : Hid (false = true ↔ riseTo T (i + 1)) := Lib.hid ⟨fun h => absurd h (by decide), fun h => Hd.out.2 (HS.out.1 h).1⟩
                go_wp2
                go_quiet (fail)
                have h3 := Lib.hid (draws wr nq HB.out)
                generalize wr.drewN nq = wq at h3 ⊢
                go_wp2
                go_roundw
                case rel => exact ⟨i + 1, false, by omega, by omega, rfl, by go_num, Hd2, h3⟩
                case measure => simp [intOf]; omega
              · subst hd
                obtain ⟨xt, yt, rfl, et⟩ := HT5.out.at_ (by omega)
                have ti := et wr HB.out i hin
                obtain ⟨p, hp⟩ : ∃ p, p = i - 1 := ⟨_, rfl⟩
                have tp := et wr HB.out p (by omega)
                have e0 : IntKind.i64.wrap ((i : Int) - 1) = (p : Int) := by rw [IntKind.wrap_i64]; omega
                have hpn : p < n1 := by omega
                obtain ⟨u, hu⟩ : ∃ u, u = T.getD p 0 := ⟨_, rfl⟩
                obtain ⟨v, hv⟩ : ∃ v, v = T.getD i 0 := ⟨_, rfl⟩
                rw [← hu] at tp
                rw [← hv] at ti
                have HS2 : Hid (riseTo T (i + 1) ↔ riseTo T i ∧ u < v) := Lib.hid (by rw [HS.out, hu, hv, hp])
                clear hp hu hv et HS
                by_cases huv : u < v
                · have Hd2 : Hid (true = true ↔ riseTo T (i + 1)) := Lib.hid (by rw [HS2.out]; exact ⟨fun _ => ⟨Hd.out.1 rfl, huv⟩, fun _ => rfl⟩)
                  go_wp2
                  go_quiet (fail)
                  have h3 := Lib.hid (draws wr nq HB.out)
                  generalize wr.drewN nq = wq at h3 ⊢
                  go_wp2
                  go_roundw
                  case rel => exact ⟨i + 1, true, by omega, by omega, rfl, by go_num, Lib.hid ⟨fun _ => Hd2.out.1 (by trivial), fun _ => rfl⟩, h3⟩
                  case measure => simp [intOf]; omega
                · have Hd2 : Hid (false = true ↔ riseTo T (i + 1)) := Lib.hid (by rw [HS2.out]; exact ⟨fun h => absurd h (by decide), fun h => absurd h.2 huv⟩)
                  go_wp2
                  go_quiet (fail)
                  have h3 := Lib.hid (draws wr nq HB.out)
                  generalize wr.drewN nq = wq at h3 ⊢
                  go_wp2
                  go_roundw
                  case rel => exact ⟨i + 1, false, by omega, by omega, rfl, by go_num, Hd2, h3⟩
                  case measure => simp [intOf]; omega
            · have HR : Hid (d = true ↔ rises T) := Lib.hid (by
                rw [Hd.out]
                have hl := HTn.out
                constructor
                · intro h j hj; exact h j (by omega)
                · intro h j hj; exact h j (by omega))
              have s7' := Lib.hid (s7.out.below HB.out)
              have HT6 := Lib.hid (HT5.out.below HB.out)
              have f6 := Lib.hid (f5.out.trans (HB.out.mono f5.out.size))
              have C6 := Lib.hid (C5.out A7 q7 wr s7'.out)
              clear Hd
              cases hd : d
              · subst hd
                go_wp2_with (go_at_call 14; ((with_reducible refine (Hid.out C6).mono ?_); rintro e w7 ⟨A9, q9, rfl, ho7, hb7⟩; have f7 := Lib.hid (f6.out.trans (hb7.mono f6.out.size)); clear hb7 ho7))
                go_ret
                exact ⟨rfl, f7.out⟩
              · subst hd
                have heq : nkL (lsL T) = T := nk_ls T HT.out (HR.out.1 rfl)
                have hl : T.length = n1 := HTn.out
                rw [heq, hl] at C6
                clear heq hl
                go_wp2_with (go_at_call 14; ((with_reducible refine (Hid.out C6).mono ?_); rintro e w7 ⟨A9, q9, rfl, ho7, hb7⟩; have f7 := Lib.hid (f6.out.trans (hb7.mono f6.out.size)); have o9 := Lib.hid (RdH.of_own ho7 HT.out); have HT7 := Lib.hid (HT6.out.below hb7); clear hb7 ho7))
                have b7 := Lib.hid (Below.refl w7.heap.size w7)
                go_loopw [14] (fun i wx => ∃ k : Nat, k ≤ n1 ∧ i = .int .i64 k ∧ Hid (Below w7.heap.size w7 wx)) (fun i _ => n1 - (intOf i).toNat)
                case atStart => exact ⟨0, by omega, rfl, b7⟩
                case round =>
                  clear HB
                  obtain ⟨k4, hk4, rfl, HB⟩ := hrel
                  by_cases hkn4 : k4 < n1
                  · obtain ⟨x9, y9, rfl, e9⟩ := o9.out.at_ (by omega)
                    obtain ⟨xt, yt, rfl, et⟩ := HT7.out.at_ (by omega)
                    have t9 := e9 wr HB.out k4 hkn4
                    have tt := et wr HB.out k4 hkn4
                    clear e9 et
                    go_wp2
                    go_quiet (fail)
                    have h3 := Lib.hid (draws wr nq HB.out)
                    generalize wr.drewN nq = wq at h3 ⊢
                    go_wp2
                    go_roundw
                    case rel => exact ⟨k4 + 1, by omega, by go_num, h3⟩
                    case measure => simp [intOf]; omega
                  · have hke4 : k4 = n1 := by omega
                    subst hke4
                    go_wp2
                    go_ret
                    exact ⟨rfl, f7.out.trans (HB.out.mono f7.out.size)⟩

/-- The walk, over what the program's functions tell. -/
theorem rtcpLosses_walkP {w : World} (HA : Alive w) (HN : TellsN 14) (HL : TellsL 16)
    (a0 : Option Addr) (n0 c0 : Nat) (a1 : Option Addr) (n1 c1 : Nat) (h0 : ∃ L, RdL w a0 n0 L) (h1 : ∃ T, RdH w a1 n1 T) :
    Calls Tryd.prog 5 #[.slice a0 n0 c0, .slice a1 n1 c1] w fun e w' => e = .returned (.bool true) ∧ Below w.heap.size w w' := by
  obtain ⟨L, h0⟩ := h0
  obtain ⟨T, h1⟩ := h1
  by_cases hb : n0 ≤ 60 ∧ n1 ≤ 200
  · exact rtcpLosses_core HA HN rnacked_any HL rlosses_any a0 n0 c0 L a1 n1 c1 T h0 h1 hb.1 hb.2
  · exact rtcpLosses_big HA a0 n0 c0 a1 n1 c1 hb
end Go.Proofs.YtacaempcbdekaaaDoor
