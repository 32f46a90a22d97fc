/- Several texts in one: Plain words, for any program: one value more behind a row of the call's own, and the row as it was. Contracts of package rtp: numbers, sources, what is cut off at the end, a copy. No statement is proved here. -/
import Derived.Test.YtmkeioeodlidgaaDoorZM0
import Derived.ArgAppend
import Derived.Maps.AppendAt
import Derived.Deep.AppendLies
namespace Go.Proofs.YtmkeioeodlidgaaDoor
open Go.RowKit

section
variable {P : Program} (w : World)
/-- One value more behind a row of the call's own: what the row held can still be read where it lay. -/
theorem run_app1 (base : Nat) {t e : TypeId} (ty : TypeId) {z : Value} {by8 : Nat} (ht : P.underlying t = some (.slice e)) (hi : (P.info? e).map (fun i => (i.zero, i.size, i.bytes)) = some (some z, 1, by8)) (hz1 : z.cells.size = 1) (h8 : by8 ≤ 64)
    (v : Value) (n : Nat) (xs : List Value) (hown : w.ownsRow base e 1 v n xs) (ad : Addr) (c : Nat) (x : Value) (hx : w.cell? (ad.add 0) = some x) (h1 : x.oneCell' = true) (hn : n ≤ 1000000) (hbase : base ≤ w.heap.size) :
    ∃ v' w', (Builtin.append_ #[t, t] ty #[v, .slice (some ad) 1 c]).run P w = .ok v' w' ∧ w'.ownsRow base e 1 v' (n + 1) (xs ++ [x]) ∧ w.grownBy w' v.ownBlock ∧
      (v'.ownBlock = v.ownBlock ∨ v'.ownBlock = some w.heap.size) ∧ (∀ g, v.ownBlock = some g → ∀ j, j < n → w'.cell? ⟨g, j, none⟩ = w.cell? ⟨g, j, none⟩) := by
  obtain ⟨i, hi, hz, hs, hby⟩ := info_parts hi
  have hnews : ∀ j u, [x][j]? = some u → w.cell? (ad.add j) = some u := by
    intro j u hj
    match j, hj with
    | 0, hj => simp at hj; subst hj; exact hx
  have hone : ∀ u ∈ [x], u.oneCell' = true := by
    intro u hu
    simp only [List.mem_singleton] at hu
    subst hu
    exact h1
  have hm : n + 1 ≤ maxLen := by simp only [maxLen]; omega
  have hb : (n + 1) * by8 ≤ 140737488355328 := by
    have : (n + 1) * by8 ≤ 1000001 * 64 := Nat.mul_le_mul (by omega) h8
    omega
  obtain ⟨v', w', hrun, h2, h3, _, h5⟩ := run_append_own_at (P := P) w base t ty e i z 1 by8 ht hi hz hs hby hz1 (by omega) v n xs hown ad 1 c [x] rfl hnews hone hm hb hbase
  refine ⟨v', w', hrun, h2, h3, h5, ?_⟩
  intro g hg j hj
  have hold := hown.cells hg
  have hxl : xs.length = n := by simpa using hown.1
  obtain ⟨g', cap, hv, _, hlt⟩ := hown.form (by omega)
  subst hv
  have hgg : g' = g := by simpa [Value.ownBlock] using hg
  subst hgg
  have hj1 : w.cell? ⟨g', j, none⟩ = xs[j]? := hown.cellAt j (by omega)
  rcases h5 with h5 | h5
  · obtain ⟨g2, cap2, hv2, _, _⟩ := h2.form (by omega)
    subst hv2
    have hg2 : g2 = g' := by simpa [Value.ownBlock] using h5
    subst hg2
    rw [hj1, h2.cellAt j (by omega), List.getElem?_append_left (by omega)]
  · by_cases hroom : n + 1 ≤ cap
    · obtain ⟨cur, hgc, hcs⟩ : ∃ cur, w.heap[g']? = some (.cells cur e (0, 0)) ∧ cur.size = cap * 1 := by
        rcases hown.2 with ⟨h', _⟩ | ⟨g2, cap2, cur, h', _, hgc, _, _, hcs, _⟩
        · simp at h'
        · simp only [Value.slice.injEq, Option.some.injEq, Addr.mk.injEq, and_true, true_and] at h'
          obtain ⟨rfl, rfl⟩ := h'
          exact ⟨cur, hgc, hcs⟩
      have hr2 := run_append_room (P := P) w t ty e i ht hi g' n cap cur hgc ad 1 c [x] (by simp [hs]) hnews hone hroom (by simp [hs, hcs]; omega)
      rw [hrun] at hr2
      injection hr2 with e1 e2
      subst e1
      simp [Value.ownBlock] at h5
      omega
    · obtain ⟨v2, w2, hr2, _, hg2⟩ := run_append_arg_grows (P := P) w t ty e i z 1 by8 ht hi hz hs hby hz1 (by omega) ⟨g', 0, none⟩ n cap xs (by omega) hold ad 1 c [x] rfl hnews (by omega) hm hb
      rw [hrun] at hr2
      injection hr2 with e1 e2
      subst e2
      exact World.cell?_of_block (w := w) (a := ⟨g', j, none⟩) (hg2.block g' hlt (by simp))
theorem wp_app1 {o : Oper} {a : Act} {K : Act → World → Prop} {Q : Exit → Act → World → Prop} (s y : Operand) {t e : TypeId} {z : Value} {by8 : Nat}
    (ho : o.op = .call { callee := .builtin .append, args := #[s, y], argTypes := #[t, t] }) (ht : P.underlying t = some (.slice e)) (hi : (P.info? e).map (fun i => (i.zero, i.size, i.bytes)) = some (some z, 1, by8)) (hz1 : z.cells.size = 1) (h8 : by8 ≤ 64)
    (base : Nat) (v : Value) (n : Nat) (xs : List Value) (hs : a.eval s = v) (hown : w.ownsRow base e 1 v n xs) (ad : Addr) (c : Nat) (hy : a.eval y = .slice (some ad) 1 c) (x : Value) (hx : w.cell? (ad.add 0) = some x) (h1 : x.oneCell' = true) (hn : n ≤ 1000000) (hbase : base ≤ w.heap.size)
    (hK : ∀ v' w', w'.ownsRow base e 1 v' (n + 1) (xs ++ [x]) → w.grownBy w' v.ownBlock → (v'.ownBlock = v.ownBlock ∨ v'.ownBlock = some w.heap.size) → (∀ g, v.ownBlock = some g → ∀ j, j < n → w'.cell? ⟨g, j, none⟩ = w.cell? ⟨g, j, none⟩) → K (a.put o.dst v') w') : o.wp P a w K Q := by
  obtain ⟨v', w', hrun, h2, h3, h4, h5⟩ := run_app1 (P := P) w base o.type ht hi hz1 h8 v n xs hown ad c x hx h1 hn hbase
  unfold Oper.wp execOp
  simp only [ho, resolve, invoke, builtin, Sem.run_bind, Sem.run_pure, Result.andThen_ok, List.map_toArray, List.map_cons, List.map_nil, hs, hy, hrun]
  exact hK v' w' h2 h3 h4 h5
theorem wpList_app1 {ops : Array Oper} {rest : List Oper} {o : Oper} {a : Act} {Q : Exit → Act → World → Prop} (hgd : o.guard = none) (s y : Operand) {t e : TypeId} {z : Value} {by8 : Nat}
    (ho : o.op = .call { callee := .builtin .append, args := #[s, y], argTypes := #[t, t] }) (ht : P.underlying t = some (.slice e)) (hi : (P.info? e).map (fun i => (i.zero, i.size, i.bytes)) = some (some z, 1, by8)) (hz1 : z.cells.size = 1) (h8 : by8 ≤ 64)
    (base : Nat) (v : Value) (n : Nat) (xs : List Value) (hs : a.eval s = v) (hown : w.ownsRow base e 1 v n xs) (ad : Addr) (c : Nat) (hy : a.eval y = .slice (some ad) 1 c) (x : Value) (hx : w.cell? (ad.add 0) = some x) (h1 : x.oneCell' = true) (hn : n ≤ 1000000) (hbase : base ≤ w.heap.size)
    (hK : ∀ v' w', w'.ownsRow base e 1 v' (n + 1) (xs ++ [x]) → w.grownBy w' v.ownBlock → (v'.ownBlock = v.ownBlock ∨ v'.ownBlock = some w.heap.size) → (∀ g, v.ownBlock = some g → ∀ j, j < n → w'.cell? ⟨g, j, none⟩ = w.cell? ⟨g, j, none⟩) → wpList P ops Q rest (a.put o.dst v') w') : wpList P ops Q (o :: rest) a w :=
  wpList_plain hgd fun _ hK2 => wp_app1 w s y ho ht hi hz1 h8 base v n xs hs hown ad c hy x hx h1 hn hbase fun v' w' h2 h3 h4 h5 => hK2 _ _ (hK v' w' h2 h3 h4 h5)
theorem step_app1 {ops : Array Oper} {o : Oper} {a : Act} {K : Act → World → Prop} {Q : Exit → Act → World → Prop} {E : Prop} (hgd : o.guard = none) (s y : Operand) {t e : TypeId} {z : Value} {by8 : Nat}
    (ho : o.op = .call { callee := .builtin .append, args := #[s, y], argTypes := #[t, t] }) (ht : P.underlying t = some (.slice e)) (hi : (P.info? e).map (fun i => (i.zero, i.size, i.bytes)) = some (some z, 1, by8)) (hz1 : z.cells.size = 1) (h8 : by8 ≤ 64)
    (base : Nat) (v : Value) (n : Nat) (xs : List Value) (hs : a.eval s = v) (hown : w.ownsRow base e 1 v n xs) (ad : Addr) (c : Nat) (hy : a.eval y = .slice (some ad) 1 c) (x : Value) (hx : w.cell? (ad.add 0) = some x) (h1 : x.oneCell' = true) (hn : n ≤ 1000000) (hbase : base ≤ w.heap.size)
    (hK : ∀ v' w', w'.ownsRow base e 1 v' (n + 1) (xs ++ [x]) → w.grownBy w' v.ownBlock → (v'.ownBlock = v.ownBlock ∨ v'.ownBlock = some w.heap.size) → (∀ g, v.ownBlock = some g → ∀ j, j < n → w'.cell? ⟨g, j, none⟩ = w.cell? ⟨g, j, none⟩) → K (a.put o.dst v') w') :
    if Region.wanted o (yielded ops a.tmps) = true then Oper.wp P o a w K Q else E := by
  rw [if_pos (by simp [Region.wanted, hgd])]
  exact wp_app1 w s y ho ht hi hz1 h8 base v n xs hs hown ad c hy x hx h1 hn hbase hK
end
/-- The slice '.slice A k c' reads as the slices of bytes ps. -/
def PartsRd (w : World) (A : Option Addr) (k : Nat) (ps : List (List UInt8)) : Prop :=
  ps.length = k ∧ (0 < k → ∃ b off, A = some ⟨b, off, none⟩ ∧ b < w.heap.size ∧ ∀ j, j < k → ∃ Aj nj cj, w.cell? ⟨b, off + j, none⟩ = some (.slice Aj nj cj) ∧ RdS w Aj nj cj (ps.getD j []))
theorem PartsRd.below {w w' : World} {A : Option Addr} {k : Nat} {ps : List (List UInt8)} (h : PartsRd w A k ps) (hb : Below w.heap.size w w') : PartsRd w' A k ps := by
  refine ⟨h.1, fun hk => ?_⟩
  obtain ⟨b, off, hA, hlt, hc⟩ := h.2 hk
  refine ⟨b, off, hA, Nat.lt_of_lt_of_le hlt hb.size, fun j hj => ?_⟩
  obtain ⟨Aj, nj, cj, h1, h2⟩ := hc j hj
  exact ⟨Aj, nj, cj, (hb.cell (p := ⟨b, off + j, none⟩) hlt).trans h1, h2.below hb⟩
end Go.Proofs.YtmkeioeodlidgaaDoor

namespace Go.Proofs.YtmkeioeodlidgaaDoor
open Go.RowKit
set_option linter.unusedVariables false

/-- The cells of a row of sources. -/
def ucells (L : List Nat) : List Value := L.map fun x : Nat => .int .u32 (x : Int)
theorem ucells_len (L : List Nat) : (ucells L).length = L.length := by simp [ucells]
theorem ucells_snoc (L : List Nat) (x : Nat) : ucells (L ++ [x]) = ucells L ++ [.int .u32 (x : Int)] := by simp [ucells]
theorem ucells_at {L : List Nat} {j : Nat} (h : j < L.length) : (ucells L)[j]? = some (.int .u32 ((L.getD j 0 : Nat) : Int)) := by simp [ucells, List.getD, h]
/-- The numbers of n sources. -/
def srcs (bs : List UInt8) (n : Nat) : List Nat := (List.range n).map fun i => numb ((bs.drop (4 * i)).take 4)
theorem srcs_len (bs : List UInt8) (n : Nat) : (srcs bs n).length = n := by simp [srcs]
theorem srcs_succ (bs : List UInt8) (n : Nat) : srcs bs (n + 1) = srcs bs n ++ [numb ((bs.drop (4 * n)).take 4)] := by simp [srcs, List.range_succ]
theorem srcs_lt (bs : List UInt8) (n : Nat) : ∀ x ∈ srcs bs n, x < 4294967296 := by
  intro x hx
  obtain ⟨i, _, rfl⟩ := List.mem_map.1 hx
  have h := numb_lt ((bs.drop (4 * i)).take 4)
  have h2 : 256 ^ ((bs.drop (4 * i)).take 4).length ≤ 256 ^ 4 := Nat.pow_le_pow_right (by omega) (by rw [List.length_take]; omega)
  have e : (256 : Nat) ^ 4 = 4294967296 := by decide
  omega
theorem numb_take_lt (bs : List UInt8) (m : Nat) : numb (bs.take m) < 256 ^ m := by
  have h := numb_lt (bs.take m)
  have h2 : 256 ^ (bs.take m).length ≤ 256 ^ m := Nat.pow_le_pow_right (by omega) (by rw [List.length_take]; omega)
  omega
theorem take_take_all (bs : List UInt8) (m : Nat) : ((bs.take m).drop 0).take m = bs.take m := by rw [List.drop_zero, List.take_take, Nat.min_self]
theorem grown_below {w w1 w2 : World} {r : Option Nat} (h : w.grownBy w1 r) (hb : Below w.heap.size w1 w2) : w.grownBy w2 r := ⟨hb.os.trans h.os, hb.tape.trans h.tape, hb.output.trans h.output, Nat.le_trans h.size hb.size, fun k hk hr => (hb.block k hk).trans (h.block k hk hr)⟩
theorem own_mono {w : World} {base base' n : Nat} {e : TypeId} {v : Value} {xs : List Value} (h : w.ownsRow base e 1 v n xs) (hb : base' ≤ base) : w.ownsRow base' e 1 v n xs := by
  obtain ⟨h1, h2⟩ := h
  refine ⟨h1, ?_⟩
  rcases h2 with h2 | ⟨g, cap, cur, hv, hg, hr⟩
  · exact .inl h2
  · exact .inr ⟨g, cap, cur, hv, by omega, hr⟩
/-- A row of the call's own stays where an elder block alone turns. -/
theorem own_only {w w' : World} {g base n : Nat} {e : TypeId} {v : Value} {xs : List Value} (h : w.ownsRow base e 1 v n xs) (ho : Only g w w') (hg : g < base) : w'.ownsRow base e 1 v n xs := by
  refine h.kept ho.grown ?_
  rcases hq : v.ownBlock with _ | q
  · exact .inl rfl
  · refine .inr fun e => ?_
    injection e with e
    have := (h.lt q hq).1
    omega

set_option maxRecDepth 100000 in
theorem number_okR (g m : Nat) (mi : Int) (hmi : mi = m) (bs : List UInt8) (w : World) (h : RdrR w g bs) (h1 : 1 ≤ m) (h8 : m ≤ 8) (hm : m ≤ bs.length) :
    Calls Tryd.prog 59 #[.pointer (some ⟨g, 0, none⟩), .int .i64 mi] w fun e w' => e = .returned (.int .u64 (numb (bs.take m))) ∧ RdrR w' g (bs.drop m) ∧ Only g w w' := by
  subst hmi
  have HB := Lib.hid (bytes_okR g m bs w h hm)
  have HN : Hid (∀ A c wx, RdS wx A m c (bs.take m) → Calls Tryd.prog 13 #[.slice A m c, .int .i64 0, .int .i64 m] wx fun e w' => e = .returned (.tuple #[.int .u64 (numb (bs.take m)), .bool true]) ∧ wx = w') := Lib.hid fun A c wx hr => by
    have := num_yes A m c (bs.take m) 0 m wx hr h1 h8 (by omega)
    rw [take_take_all] at this
    exact this
  clear h
  go_enter Tryd.func59, Tryd.ntmps59
  go_wp2_with (first
    | (go_at_call 69; ((with_reducible refine (Hid.out HB).mono ?_); rintro e w' ⟨A, c, rfl, hR, hr, ho⟩))
    | (go_at_call 13; ((with_reducible refine (Hid.out HN A c _ hR).mono ?_); rintro e w2 ⟨rfl, rfl⟩)))
  go_ret
  exact ⟨rfl, hr, ho⟩

set_option maxRecDepth 100000 in
theorem number_no (g m : Nat) (mi : Int) (hmi : mi = m) (bs : List UInt8) (w : World) (h : RdrR w g bs) (hm : bs.length < m) :
    Calls Tryd.prog 59 #[.pointer (some ⟨g, 0, none⟩), .int .i64 mi] w fun e w' => e = .panicked (gone 2) ∧ w = w' := by
  subst hmi
  have HB := Lib.hid (bytes_no g m bs w h (by omega))
  clear h
  go_enter Tryd.func59, Tryd.ntmps59
  go_wp2_with (go_at_call 69; ((with_reducible refine (Hid.out HB).mono ?_); rintro e w' ⟨rfl, rfl⟩))
  exact ⟨rfl, rfl, rfl⟩

theorem clone_any (A : Option Addr) (n c : Nat) (bs : List UInt8) (w : World) (hr : RdS w A n c bs) (hs : n ≤ 1000000) :
    Calls Tryd.prog 63 #[.slice A n c] w fun e w' => ∃ A' c', e = .returned (.slice A' n c') ∧ w'.ownsRow w.heap.size 5 1 (.slice A' n c') n (cells bs) ∧ Below w.heap.size w w' := by
  go_enter Tryd.func63, Tryd.ntmps63
  go_wp2_with (at_builtin; refine wpList_append_rd _ rfl (.const (.slice none 0 0)) (.tmp 3) rfl Tryd.underlying22 u8_info w.heap.size (.slice none 0 0) 0 [] rfl (World.ownsRow_nil w _ _ _) A n c bs rfl hr (by omega) (Nat.le_refl _) ?_; intro v1 w1 hown1 hg1 hat1)
  rw [Nat.zero_add, List.nil_append] at hown1
  obtain ⟨A', c', hv⟩ := own_form hown1
  subst hv
  go_ret
  exact ⟨A', c', rfl, hown1, below_of_grown hg1 (Nat.le_refl _) (fun k hk => by simp [Value.ownBlock] at hk)⟩

theorem u32_inf : (Tryd.prog.info? 24).map (fun i => (i.zero, i.size, i.bytes)) = some (some (.int .u32 0), 1, 4) := by kernel_rfl

set_option maxRecDepth 100000 in
set_option maxHeartbeats 1000000 in
theorem sources_any (g n : Nat) (ni : Int) (hni : ni = n) (bs : List UInt8) (w : World) (h : RdrR w g bs) (hn : n ≤ 15) :
    Calls Tryd.prog 60 #[.pointer (some ⟨g, 0, none⟩), .int .i64 ni] w fun e w' => ((4 * n ≤ bs.length ∧ ∃ A c, e = .returned (.slice A n c) ∧ w'.ownsRow w.heap.size 24 1 (.slice A n c) n (ucells (srcs bs n)) ∧ RdrR w' g (bs.drop (4 * n))) ∨ (bs.length < 4 * n ∧ e = .panicked (gone 2))) ∧ w.grownBy w' (some g) := by
  subst hni
  have hlt := h.lt
  go_enter Tryd.func60, Tryd.ntmps60
  go_wp2
  go_loopw [5, 7] (fun v i wr => ∃ (k : Nat) (A : Option Addr) (c : Nat), k ≤ n ∧ 4 * k ≤ bs.length ∧ i = .int .i64 k ∧ v = .slice A k c ∧ wr.ownsRow w.heap.size 24 1 (.slice A k c) k (ucells (srcs bs k)) ∧ RdrR wr g (bs.drop (4 * k)) ∧ w.grownBy wr (some g)) (fun _ i _ => n - (intOf i).toNat)
  case atStart => exact ⟨0, none, 0, by omega, by omega, rfl, rfl, World.ownsRow_nil w _ _ _, by simpa using h, World.grownBy.refl w _⟩
  case round =>
    obtain ⟨k, A, c, hk, hkl, rfl, rfl, hown, hrd, hg⟩ := hrel
    by_cases hkn : k < n
    · by_cases hfit : 4 * (k + 1) ≤ bs.length
      · have HN := Lib.hid (number_okR g 4 4 rfl (bs.drop (4 * k)) wr hrd (by omega) (by omega) (by rw [List.length_drop]; omega))
        have hu : numb ((bs.drop (4 * k)).take 4) < 4294967296 := by have := numb_take_lt (bs.drop (4 * k)) 4; simpa using this
        obtain ⟨x, hx⟩ : ∃ x, x = numb ((bs.drop (4 * k)).take 4) := ⟨_, rfl⟩
        have hsn : srcs bs (k + 1) = srcs bs k ++ [x] := by rw [hx]; exact srcs_succ bs k
        have hdd : (bs.drop (4 * k)).drop 4 = bs.drop (4 * (k + 1)) := by rw [List.drop_drop]; rfl
        rw [← hx, hdd] at HN
        rw [← hx] at hu
        have HS := Lib.hid hsn
        have HO := Lib.hid hown
        have hgs := hg.size
        clear hx hsn hdd hown hrd h
        go_wp2_with (first
          | (go_at_call 59; ((with_reducible refine (Hid.out HN).mono ?_); rintro e w1 ⟨rfl, hr1, ho1⟩; have hown1 := own_only HO.out ho1 hlt; have HZ := Lib.hid ho1.size))
          | (at_builtin; refine wpList_app1 _ rfl (.tmp 9) (.tmp 13) rfl Tryd.underlying38 u32_inf rfl (by omega) w.heap.size (.slice A k c) k (ucells (srcs bs k)) rfl (hown1.alloc _) ⟨w1.heap.size, 0, none⟩ 1 rfl (.int .u32 (x : Int)) (cell_one_new _ _ _ 0 _ rfl) rfl (by omega) (by have := HZ.out; simp; omega) ?_; intro v2 w2 hown2 hg2 hat2 _; obtain ⟨A2, c2, hv2⟩ := own_form hown2; subst hv2; have hr2 := hr1.below ((Below.refl _ _).alloc (Nat.le_refl _) (.cells #[.int .u32 (x : Int)] 24)); have hlt1 := hown1.lt))
        have hg12 : w1.grownBy w2 (Value.ownBlock (.slice A k c)) := ((Below.refl w1.heap.size w1).alloc (Nat.le_refl _) (.cells #[.int .u32 (x : Int)] 24)) |> fun b => (grown_of_below b _).trans hg2
        have hr3 : RdrR w2 g (bs.drop (4 * (k + 1))) := hr1.grown hg12 (fun p hp => by have := (hlt1 p hp).1; omega)
        have hgg : w.grownBy w2 (some g) := grown_below (hg.trans ho1.grown) (below_of_grown hg12 (by have := HZ.out; omega) (fun p hp => (hlt1 p hp).1))
        go_roundw
        case rel => exact ⟨k + 1, A2, c2, by omega, hfit, by go_num, rfl, by rw [HS.out, ucells_snoc]; exact hown2, hr3, hgg⟩
        case measure => simp [intOf]; omega
      · have HN := Lib.hid (number_no g 4 4 rfl (bs.drop (4 * k)) wr hrd (by rw [List.length_drop]; omega))
        clear hown hrd h
        go_wp2_with (go_at_call 59; ((with_reducible refine (Hid.out HN).mono ?_); rintro e w1 ⟨rfl, rfl⟩))
        exact ⟨rfl, .inr ⟨by omega, rfl⟩, hg⟩
    · obtain rfl : k = n := by omega
      clear h
      go_wp2
      go_ret
      exact ⟨.inl ⟨hkl, A, c, rfl, hown, hrd⟩, hg⟩
end Go.Proofs.YtmkeioeodlidgaaDoor
