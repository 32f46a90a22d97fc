/- What the document's answer for layer 11 (tenailleref11) tells of numbers: their losses. No statement is proved here. -/
import Derived.Test.YtkmacpmdgbhhkaaRtcpR2
import Derived.Maps.AppendAt
import Derived.BigQuiet
namespace Go.Proofs.Ytkmacpmdgbhhkaa
open Go.RowKit
set_option linter.unusedVariables false

def lcells (L : List (Nat × Nat)) : List Value := L.flatMap fun a => [.int .u16 (a.1 : Int), .int .u16 (a.2 : Int)]
theorem lcells_snoc (L : List (Nat × Nat)) (s b : Nat) : lcells (L ++ [(s, b)]) = lcells L ++ [.int .u16 (s : Int), .int .u16 (b : Int)] := by simp [lcells]
theorem lcells_len (L : List (Nat × Nat)) : (lcells L).length = L.length * 2 := by
  induction L with
  | nil => rfl
  | cons a r ih =>
    have : lcells (a :: r) = [.int .u16 (a.1 : Int), .int .u16 (a.2 : Int)] ++ lcells r := by simp [lcells]
    rw [this, List.length_append, ih, List.length_cons]
    simp; omega
theorem lcells_s (L : List (Nat × Nat)) (s b : Nat) : (lcells (L ++ [(s, b)]))[L.length * 2]? = some (.int .u16 (s : Int)) := by
  rw [lcells_snoc, List.getElem?_append_right (by rw [lcells_len]; omega), lcells_len, Nat.sub_self]; rfl
theorem lcells_b (L : List (Nat × Nat)) (s b : Nat) : (lcells (L ++ [(s, b)]))[L.length * 2 + 1]? = some (.int .u16 (b : Int)) := by
  rw [lcells_snoc, List.getElem?_append_right (by rw [lcells_len]; omega), lcells_len, Nat.add_sub_cancel_left]; rfl
theorem lcells_set (L : List (Nat × Nat)) (s b b' : Nat) : (lcells (L ++ [(s, b)])).set (L.length * 2 + 1) (.int .u16 (b' : Int)) = lcells (L ++ [(s, b')]) := by
  rw [lcells_snoc, lcells_snoc, List.set_append_right _ _ (by rw [lcells_len]; omega), lcells_len, Nat.add_sub_cancel_left]; rfl

theorem loss_inf : ∃ i, Try.prog.info? 35 = some i ∧ i.zero = some (.agg #[.int .u16 0, .int .u16 0]) ∧ i.size = 2 ∧ i.bytes = 4 := by
  have h : (Try.prog.info? 35).map (fun i => (i.zero, i.size, i.bytes)) = some (some (.agg #[.int .u16 0, .int .u16 0]), 2, 4) := by kernel_rfl
  cases hi : Try.prog.info? 35 with
  | none => rw [hi] at h; cases h
  | some i =>
    rw [hi] at h
    simp only [Option.map_some, Option.some.injEq, Prod.mk.injEq] at h
    exact ⟨i, rfl, h.1, h.2.1, h.2.2⟩
/-- One loss is put behind losses of the call's own. -/
theorem wpList_app2 {w : World} {ops : Array Oper} {rest : List Oper} {o : Oper} {a : Act} {Q : Exit → Act → World → Prop} (hgd : o.guard = none) (s y : Operand)
    (ho : o.op = .call { callee := .builtin .append, args := #[s, y], argTypes := #[31, 31] })
    (base : Nat) (v : Value) (n : Nat) (xs : List Value) (hs : a.eval s = v) (hown : w.ownsRow base 35 2 v n xs) (g : Nat) (hy : a.eval y = .slice (some ⟨g, 0, none⟩) 1 1) (p q : Nat) (hp : w.cell? ⟨g, 0, none⟩ = some (.int .u16 (p : Int))) (hq : w.cell? ⟨g, 1, none⟩ = some (.int .u16 (q : Int))) (hn : n ≤ 1000000) (hbase : base ≤ w.heap.size)
    (h : ∀ v' w', w'.ownsRow base 35 2 v' (n + 1) (xs ++ [.int .u16 (p : Int), .int .u16 (q : Int)]) → w.grownBy w' v.ownBlock → wpList Try.prog ops Q rest (a.put o.dst v') w') : wpList Try.prog ops Q (o :: rest) a w := by
  obtain ⟨i, hi, hz, hsz, hby⟩ := loss_inf
  refine wpList_append_own_at w hgd s y 31 ho base 35 i _ 2 4 Try.underlying31 hi hz hsz hby rfl (by omega) v n xs hs hown ⟨g, 0, none⟩ 1 1 [.int .u16 (p : Int), .int .u16 (q : Int)] hy rfl ?_ ?_ (by simp [maxLen]; omega) (by omega) hbase (fun v' w' h1 h2 _ _ => h v' w' h1 h2)
  · intro j u hj
    rw [add_lit, Nat.zero_add]
    match j, hj with
    | 0, hj => simp at hj; subst hj; exact hp
    | 1, hj => simp at hj; subst hj; exact hq
    | j + 2, hj => simp at hj
  · intro u hu
    simp at hu
    rcases hu with rfl | rfl <;> rfl

/-- A slice of numbers reads as these. -/
def RdH (w : World) (A : Option Addr) (n : Nat) (L : List Nat) : Prop :=
  L.length = n ∧ n ≤ 9223372036854775807 ∧ (∀ x ∈ L, x < 65536) ∧ (0 < n → ∃ b off, A = some ⟨b, off, none⟩ ∧ b < w.heap.size ∧ ∀ j, j < n → w.cell? ⟨b, off + j, none⟩ = some (.int .u16 ((L.getD j 0 : Nat) : Int)))
theorem RdH.below {w w' : World} {A : Option Addr} {n : Nat} {L : List Nat} (h : RdH w A n L) (hb : Below w.heap.size w w') : RdH w' A n L := by
  refine ⟨h.1, h.2.1, h.2.2.1, fun hn => ?_⟩
  obtain ⟨b, off, hA, hlt, hc⟩ := h.2.2.2 hn
  exact ⟨b, off, hA, Nat.lt_of_lt_of_le hlt hb.size, fun j hj => (hb.cell (p := ⟨b, off + j, none⟩) hlt).trans (hc j hj)⟩
theorem shl_u16 (j : Nat) (hj : j < 16) : Op.shift .shl .u16 1 .u64 (j : Int) = pure (.int .u16 ((2 ^ j : Nat) : Int)) := by
  have h0 : ¬ ((j : Int) < 0) := by omega
  unfold Op.shift
  rw [if_neg h0]
  simp only [Int.toNat_natCast, IntKind.bits]
  have hp : (2 : Nat) ^ j < 65536 := Nat.lt_of_lt_of_le (Nat.pow_lt_pow_right (by omega) hj) (by decide)
  rw [Nat.min_eq_left (by omega), IntKind.wrap_u16]
  obtain ⟨y, hy⟩ : ∃ y, y = 2 ^ j := ⟨_, rfl⟩
  rw [← hy] at hp
  have e : (2 : Int) ^ j = (y : Int) := by rw [hy]; simp
  simp only [Int.one_mul, e, ← hy]
  congr 2
  omega

theorem zeroLoss (w : World) : (zeroValue 35).run Try.prog w = .ok (.agg #[.int .u16 0, .int .u16 0]) w := by kernel_rfl
theorem own_form2 {w : World} {base : Nat} {e : TypeId} {v : Value} {n : Nat} {xs : List Value} (h : w.ownsRow base e 2 v n xs) : ∃ A c, v = .slice A n c := by
  rcases h.2 with ⟨rfl, rfl⟩ | ⟨g, cap, cur, rfl, _⟩
  · exact ⟨none, 0, rfl⟩
  · exact ⟨_, cap, rfl⟩
theorem own_block2 {w : World} {base : Nat} {e : TypeId} {A : Option Addr} {n c : Nat} {xs : List Value} (h : w.ownsRow base e 2 (.slice A n c) n xs) (hn : 0 < n) : ∃ g, A = some ⟨g, 0, none⟩ ∧ base ≤ g := by
  rcases h.2 with ⟨_, h0⟩ | ⟨g, cap, cur, hv, hb, _⟩
  · omega
  · injection hv with h1 _ _
    exact ⟨g, h1, hb⟩
theorem new_loss (w : World) (p q : Nat) : (w.alloc (.cells #[.int .u16 (p : Int), .int .u16 (q : Int)] 35)).cell? ⟨w.heap.size, 0, none⟩ = some (.int .u16 (p : Int)) ∧ (w.alloc (.cells #[.int .u16 (p : Int), .int .u16 (q : Int)] 35)).cell? ⟨w.heap.size, 1, none⟩ = some (.int .u16 (q : Int)) :=
  ⟨((BlkV.new w 35 [.int .u16 (p : Int), .int .u16 (q : Int)]).cell 0).trans rfl, ((BlkV.new w 35 [.int .u16 (p : Int), .int .u16 (q : Int)]).cell 1).trans rfl⟩

set_option maxRecDepth 100000 in
set_option maxHeartbeats 4000000 in
theorem rlosses_any (A : Option Addr) (n c : Nat) (L : List Nat) (w : World) (h : RdH w A n L) (hn : n ≤ 1000) :
    Calls Try.prog 24 #[.slice A n c] w fun e w' => ∃ A' c', e = .returned (.slice A' (lsL L).length c') ∧ w'.ownsRow w.heap.size 35 2 (.slice A' (lsL L).length c') (lsL L).length (lcells (lsL L)) ∧ Below w.heap.size w w' := by
  have HR := Lib.hid h
  have hz := zeroLoss
  clear h
  go_enter Try.func24, Try.ntmps24
  go_wp2
  go_loopw [3, 4] (fun v i wr => ∃ (k M : Nat) (A' : Option Addr) (c' : Nat), k ≤ n ∧ M ≤ k ∧ i = .int .i64 k ∧ v = .slice A' M c' ∧ Hid (M = (lsL (L.take k)).length) ∧ Hid (wr.ownsRow w.heap.size 35 2 (.slice A' M c') M (lcells (lsL (L.take k))) ∧ Below w.heap.size w wr)) (fun _ i _ => n - (intOf i).toNat)
  case atStart => exact ⟨0, 0, none, 0, by omega, by omega, rfl, rfl, Lib.hid rfl, Lib.hid ⟨World.ownsRow_nil w _ _ _, Below.refl _ _⟩⟩
  case round =>
    obtain ⟨k, M, A1, c1, hk, hM, rfl, rfl, HM, HL⟩ := hrel
    by_cases hkn : k < n
    · obtain ⟨b, off, rfl, hlt, hc⟩ := HR.out.2.2.2 (by omega)
      have q1 := hc k hkn
      have hxl : L.getD k 0 < 65536 := by
        have : k < L.length := by rw [HR.out.1]; exact hkn
        have h2 : L.getD k 0 = L[k] := by simp [List.getD, this]
        rw [h2]; exact HR.out.2.2.1 _ (List.getElem_mem _)
      have hsn : L.take (k + 1) = L.take k ++ [L.getD k 0] := by
        have : k < L.length := by rw [HR.out.1]; exact hkn
        rw [List.take_add_one, List.getD, List.getElem?_eq_getElem this]; rfl
      obtain ⟨x, hx⟩ : ∃ x, x = L.getD k 0 := ⟨_, rfl⟩
      rw [← hx] at q1 hxl hsn
      have Q1 : Hid (∀ W, Below w.heap.size w W → W.cell? ⟨b, off + k, none⟩ = some (.int .u16 (x : Int))) := Lib.hid fun W hb => (hb.cell (p := ⟨b, off + k, none⟩) hlt).trans q1
      have HSN : Hid (lsL (L.take (k + 1)) = lsS (lsL (L.take k)) x) := Lib.hid (by rw [hsn, lsL_snoc])
      obtain ⟨O, hO⟩ : ∃ O, O = lsL (L.take k) := ⟨_, rfl⟩
      rw [← hO] at HM HL HSN
      have HF : Hid (∀ a ∈ O, a.1 < 65536 ∧ a.2 < 65536) := Lib.hid (by rw [hO]; exact lsL_fit _ (fun y hy => HR.out.2.2.1 y (List.mem_of_mem_take hy)))
      clear q1 hsn hx hc hO
      rcases List.eq_nil_or_concat O with hO | ⟨O1, a, hO⟩
      · subst hO
        have hM0 : M = 0 := HM.out
        subst hM0
        have HS2 : Hid (lsL (L.take (k + 1)) = [(x, 0)]) := Lib.hid (HSN.out.trans (lsS_nil x))
        clear HSN
        go_wp2
        go_loopw [5, 6] (fun vd vk wx => vd = .bool false ∧ vk = .int .i64 1 ∧ Hid (wx.ownsRow w.heap.size 35 2 (.slice A1 0 c1) 0 (lcells []) ∧ Below w.heap.size w wx)) (fun _ _ _ => 0)
        case atStart => exact ⟨rfl, rfl, HL⟩
        case round =>
          clear HL
          obtain ⟨rfl, rfl, HL⟩ := hrel
          have r1 := Q1.out _ HL.out.2
          have hsz := HL.out.2.size
          go_wp2_with (at_builtin; refine wpList_app2 rfl (.tmp 57) (.tmp 63) rfl w.heap.size (.slice A1 0 c1) 0 (lcells []) rfl (HL.out.1.alloc _) wr.heap.size rfl x 0 (new_loss wr x 0).1 (new_loss wr x 0).2 (by omega) (by simp; omega) ?_; intro v3 w3 hown3 hg3; obtain ⟨A3, c3, hv3⟩ := own_form2 hown3; subst hv3; have b3 := Lib.hid ((HL.out.2.alloc HL.out.2.size _).grown hg3 (by simp; omega) (fun q hq => (HL.out.1.lt q hq).1)); have o3 := Lib.hid hown3; clear hown3 hg3)
          go_roundw
          case rel => exact ⟨k + 1, 1, A3, c3, by omega, by omega, by go_num, rfl, Lib.hid (by rw [HS2.out]; rfl), Lib.hid ⟨by rw [HS2.out]; exact o3.out, b3.out⟩⟩
          case measure => simp [intOf]; omega
      · rw [List.concat_eq_append] at hO
        subst hO
        obtain ⟨s, bb⟩ := a
        obtain ⟨hs1, hs2⟩ := HF.out (s, bb) (by simp)
        simp only at hs1 hs2
        obtain ⟨m, hm⟩ : ∃ m, m = O1.length := ⟨_, rfl⟩
        have HMm : Hid (M = m + 1) := Lib.hid (by rw [HM.out, hm]; simp)
        have Hm := Lib.hid hm
        have hM1 : 0 < M := by have := HMm.out; omega
        have hm10 : m ≤ 1000 := by have := HMm.out; omega
        have e0 : IntKind.i64.wrap ((M : Int) - 1) = (m : Int) := by have := HMm.out; rw [IntKind.wrap_i64]; omega
        have hmM : (m : Int) < (M : Int) := by have := HMm.out; omega
        obtain ⟨g, rfl, hg⟩ := own_block2 HL.out.1 hM1
        obtain ⟨D, hD⟩ : ∃ D, D = far s x := ⟨_, rfl⟩
        have HD := Lib.hid hD
        clear HF HM hm hD
        go_wp2
        go_loopw [5, 6] (fun vd vk wx => ∃ (j V : Nat) (d : Bool), j ≤ 16 ∧ V < 65536 ∧ vd = .bool d ∧ vk = .int .i64 ((j : Int) + 1) ∧ Hid (d = decide (1 ≤ D ∧ D ≤ j)) ∧ Hid (V = if 1 ≤ D ∧ D ≤ j then bb ||| 2 ^ (D - 1) else bb) ∧ Hid (wx.ownsRow w.heap.size 35 2 (.slice (some ⟨g, 0, none⟩) M c1) M (lcells (O1 ++ [(s, V)])) ∧ Below w.heap.size w wx)) (fun _ vk _ => 17 - (intOf vk).toNat)
        case atStart => exact ⟨0, bb, false, by omega, hs2, rfl, by simp, Lib.hid (by symm; rw [decide_eq_false_iff_not]; omega), Lib.hid (by rw [if_neg (by omega)]), HL⟩
        case round =>
          clear HL
          obtain ⟨j, V, d, hj, hV, rfl, rfl, Hd, HV, HL⟩ := hrel
          have r1 := Q1.out _ HL.out.2
          have hsz := HL.out.2.size
          have cs : wr.cell? ⟨g, m * 2, none⟩ = some (.int .u16 (s : Int)) := (HL.out.1.cellAt (m * 2) (by have := HMm.out; omega)).trans (by rw [Hm.out]; exact lcells_s O1 s V)
          have cb : wr.cell? ⟨g, m * 2 + 1, none⟩ = some (.int .u16 (V : Int)) := (HL.out.1.cellAt (m * 2 + 1) (by have := HMm.out; omega)).trans (by rw [Hm.out]; exact lcells_b O1 s V)
          by_cases hj16 : j < 16
          · have e1 : IntKind.u16.wrap ((j : Int) + 1) = (j : Int) + 1 := by rw [IntKind.wrap_u16]; omega
            obtain ⟨Y, hY⟩ : ∃ Y, Y = (s + j + 1) % 65536 := ⟨_, rfl⟩
            have e2 : IntKind.u16.wrap ((s : Int) + ((j : Int) + 1)) = (Y : Int) := by rw [IntKind.wrap_u16, hY]; omega
            have HY : Hid (Y = x ↔ D = j + 1) := Lib.hid (by rw [HD.out, hY]; unfold far; omega)
            clear hY
            by_cases hYx : Y = x
            · have hDj := HY.out.1 hYx
              have hq : ((Y : Int) == (x : Int)) = true := by simp [hYx]
              have HV3 : Hid (V = bb) := Lib.hid (by rw [HV.out, if_neg (by omega)])
              obtain ⟨P, hP⟩ : ∃ P, P = 2 ^ j := ⟨_, rfl⟩
              have hP2 : P < 65536 := by rw [hP]; exact Nat.lt_of_lt_of_le (Nat.pow_lt_pow_right (by omega) hj16) (by decide)
              have e4 : IntKind.u16.wrap ((2 : Int) ^ j) = (P : Int) := by
                have e : (2 : Int) ^ j = (P : Int) := by rw [hP]; simp
                rw [e, IntKind.wrap_u16]; omega
              obtain ⟨Z, hZ⟩ : ∃ Z, Z = V ||| P := ⟨_, rfl⟩
              have hor := u16_or_nat V P hV hP2
              rw [← hZ] at hor
              have hZ2 : Z < 65536 := by rw [hZ]; exact Nat.or_lt_two_pow (n := 16) hV hP2
              have Hd2 : Hid (true = decide (1 ≤ D ∧ D ≤ j + 1)) := Lib.hid (by symm; rw [decide_eq_true_iff]; omega)
              have HV2 : Hid (Z = if 1 ≤ D ∧ D ≤ j + 1 then bb ||| 2 ^ (D - 1) else bb) := Lib.hid (by
                rw [if_pos (by omega), hZ, HV3.out, hP, hDj, Nat.add_sub_cancel])
              have HB3 : Hid (∀ wq : World, wq.ownsRow w.heap.size 35 2 (.slice (some ⟨g, 0, none⟩) M c1) M (lcells (O1 ++ [(s, V)])) → Below w.heap.size w wq → (wq.setCell ⟨g, m * 2 + 1, none⟩ (.int .u16 (Z : Int))).ownsRow w.heap.size 35 2 (.slice (some ⟨g, 0, none⟩) M c1) M (lcells (O1 ++ [(s, Z)])) ∧ Below w.heap.size w (wq.setCell ⟨g, m * 2 + 1, none⟩ (.int .u16 (Z : Int)))) := Lib.hid fun wq h1 h2 => by
                have h3 := (h1.stored (m * 2 + 1) (.int .u16 (Z : Int))).1
                rw [Hm.out, lcells_set] at h3
                rw [Hm.out]
                exact ⟨h3, h2.setCell hg _⟩
              clear hYx hDj hP hZ HV3
              go_wp2
              go_quiet (fail)
              have h3 := Lib.hid (show (wr.drewN nq).ownsRow w.heap.size 35 2 (.slice (some ⟨g, 0, none⟩) M c1) M (lcells (O1 ++ [(s, V)])) ∧ Below w.heap.size w (wr.drewN nq) from ⟨HL.out.1, HL.out.2.trans ⟨rfl, rfl, rfl, Nat.le_refl _, fun _ _ => rfl⟩⟩)
              clear cs cb r1 hsz
              generalize wr.drewN nq = wq at h3 ⊢
              have cb : wq.cell? ⟨g, m * 2 + 1, none⟩ = some (.int .u16 (V : Int)) := (h3.out.1.cellAt (m * 2 + 1) (by have := HMm.out; omega)).trans (by rw [Hm.out]; exact lcells_b O1 s V)
              have cf : wq.frozen? ⟨g, m * 2 + 1, none⟩ = false := h3.out.1.frozenAt (m * 2 + 1)
              go_wp2
              go_roundw
              case rel => exact ⟨j + 1, Z, true, by omega, hZ2, rfl, by go_num, Hd2, HV2, Lib.hid (HB3.out wq h3.out.1 h3.out.2)⟩
              case measure => simp [intOf]; omega
            · have hDj : ¬ D = j + 1 := fun h => hYx (HY.out.2 h)
              have hq : ((Y : Int) == (x : Int)) = false := by simp; omega
              have Hd2 : Hid (d = decide (1 ≤ D ∧ D ≤ j + 1)) := Lib.hid (by rw [Hd.out, decide_eq_decide]; omega)
              have HV2 : Hid (V = if 1 ≤ D ∧ D ≤ j + 1 then bb ||| 2 ^ (D - 1) else bb) := Lib.hid (by
                rw [HV.out]
                by_cases hc : 1 ≤ D ∧ D ≤ j
                · rw [if_pos hc, if_pos (by omega)]
                · rw [if_neg hc, if_neg (by omega)])
              clear hYx hDj
              go_wp2
              go_quiet (fail)
              have h3 := Lib.hid (show (wr.drewN nq).ownsRow w.heap.size 35 2 (.slice (some ⟨g, 0, none⟩) M c1) M (lcells (O1 ++ [(s, V)])) ∧ Below w.heap.size w (wr.drewN nq) from ⟨HL.out.1, HL.out.2.trans ⟨rfl, rfl, rfl, Nat.le_refl _, fun _ _ => rfl⟩⟩)
              generalize wr.drewN nq = wq at h3 ⊢
              go_wp2
              go_roundw
              case rel => exact ⟨j + 1, V, d, by omega, hV, rfl, by go_num, Hd2, HV2, h3⟩
              case measure => simp [intOf]; omega
          · have hje : j = 16 := by omega
            subst hje
            cases hd : d
            · have hno : ¬ (1 ≤ D ∧ D ≤ 16) := by have := Hd.out; rw [hd] at this; exact decide_eq_false_iff_not.1 this.symm
              have HS2 : Hid (lsL (L.take (k + 1)) = (O1 ++ [(s, V)]) ++ [(x, 0)]) := Lib.hid (by
                rw [HSN.out, lsS_new O1 s bb x (by rw [← HD.out]; exact hno), HV.out, if_neg hno])
              subst hd
              clear hno HSN
              go_wp2_with (at_builtin; refine wpList_app2 rfl (.tmp 57) (.tmp 63) rfl w.heap.size (.slice (some ⟨g, 0, none⟩) M c1) M (lcells (O1 ++ [(s, V)])) rfl (HL.out.1.alloc _) wr.heap.size rfl x 0 (new_loss wr x 0).1 (new_loss wr x 0).2 (by omega) (by simp; omega) ?_; intro v3 w3 hown3 hg3; obtain ⟨A3, c3, hv3⟩ := own_form2 hown3; subst hv3; have b3 := Lib.hid ((HL.out.2.alloc HL.out.2.size _).grown hg3 (by simp; omega) (fun q hq => (HL.out.1.lt q hq).1)); have o3 := Lib.hid hown3; clear hown3 hg3)
              go_roundw
              case rel => exact ⟨k + 1, M + 1, A3, c3, by omega, by omega, by go_num, rfl, Lib.hid (by rw [HS2.out, HMm.out, Hm.out]; simp), Lib.hid ⟨by rw [HS2.out, lcells_snoc]; exact o3.out, b3.out⟩⟩
              case measure => simp [intOf]; omega
            · have hyes : 1 ≤ D ∧ D ≤ 16 := by have := Hd.out; rw [hd] at this; exact decide_eq_true_iff.1 this.symm
              have HS2 : Hid (lsL (L.take (k + 1)) = O1 ++ [(s, V)]) := Lib.hid (by
                rw [HSN.out, lsS_in O1 s bb x (by rw [← HD.out]; exact hyes.1) (by rw [← HD.out]; exact hyes.2), HV.out, if_pos hyes, HD.out])
              subst hd
              clear hyes HSN
              go_wp2
              go_roundw
              case rel => exact ⟨k + 1, M, _, c1, by omega, by omega, by go_num, rfl, Lib.hid (by rw [HS2.out, HMm.out, Hm.out]; simp), Lib.hid ⟨by rw [HS2.out]; exact HL.out.1, HL.out.2⟩⟩
              case measure => simp [intOf]; omega
    · obtain rfl : k = n := by omega
      rw [show L.take k = L by rw [← HR.out.1, List.take_length]] at HL HM
      have hm : M = (lsL L).length := HM.out
      subst hm
      go_wp2
      go_ret
      exact ⟨A1, c1, rfl, HL.out.1, HL.out.2⟩
end Go.Proofs.Ytkmacpmdgbhhkaa
