/- Several texts in one: plain words and walks. No statement is proved here. -/
import Derived.Test.YtmkeioeodlidgaaGreatDoorZM0
import Derived.ArgAppend
import Derived.Maps.AppendAt
import Derived.Deep.AppendLies
namespace Go.Proofs.YtmkeioeodlidgaaGreatDoor
open Go.RowKit

section
variable {P : Program} (w : World)
theorem run_app1 (base : Nat) {t e : TypeId} (ty : TypeId) {z : Value} {by8 : Nat} (ht : P.underlying t = some (.slice e)) (hi : (P.info? e).map (fun i => (i.zero, i.size, i.bytes)) = some (some z, 1, by8)) (hz1 : z.cells.size = 1) (h8 : by8 ≤ 64)
 (v : Value) (n : Nat) (xs : List Value) (hown : w.ownsRow base e 1 v n xs) (ad : Addr) (c : Nat) (x : Value) (hx : w.cell? (ad.add 0) = some x) (h1 : x.oneCell' = true) (hn : n ≤ 1000000) (hbase : base ≤ w.heap.size) :
 ∃ v' w', (Builtin.append_ #[t, t] ty #[v, .slice (some ad) 1 c]).run P w = .ok v' w' ∧ w'.ownsRow base e 1 v' (n + 1) (xs ++ [x]) ∧ w.grownBy w' v.ownBlock ∧
   (v'.ownBlock = v.ownBlock ∨ v'.ownBlock = some w.heap.size) ∧ (∀ g, v.ownBlock = some g → ∀ j, j < n → w'.cell? ⟨g, j, none⟩ = w.cell? ⟨g, j, none⟩) := by
 obtain ⟨i, hi, hz, hs, hby⟩ := info_parts hi
 have hnews : ∀ j u, [x][j]? = some u → w.cell? (ad.add j) = some u := by
  intro j u hj
  match j, hj with
  | 0, hj => simp at hj; subst hj; exact hx
 have hone : ∀ u ∈ [x], u.oneCell' = true := by
  intro u hu
  simp only [List.mem_singleton] at hu
  subst hu
  exact h1
 have hm : n + 1 ≤ maxLen := by simp only [maxLen]; omega
 have hb : (n + 1) * by8 ≤ 140737488355328 := by
  have : (n + 1) * by8 ≤ 1000001 * 64 := Nat.mul_le_mul (by omega) h8
  omega
 obtain ⟨v', w', hrun, h2, h3, _, h5⟩ := run_append_own_at (P := P) w base t ty e i z 1 by8 ht hi hz hs hby hz1 (by omega) v n xs hown ad 1 c [x] rfl hnews hone hm hb hbase
 refine ⟨v', w', hrun, h2, h3, h5, ?_⟩
 intro g hg j hj
 have hold := hown.cells hg
 have hxl : xs.length = n := by simpa using hown.1
 obtain ⟨g', cap, hv, _, hlt⟩ := hown.form (by omega)
 subst hv
 have hgg : g' = g := by simpa [Value.ownBlock] using hg
 subst hgg
 have hj1 : w.cell? ⟨g', j, none⟩ = xs[j]? := hown.cellAt j (by omega)
 rcases h5 with h5 | h5
 · obtain ⟨g2, cap2, hv2, _, _⟩ := h2.form (by omega)
   subst hv2
   have hg2 : g2 = g' := by simpa [Value.ownBlock] using h5
   subst hg2
   rw [hj1, h2.cellAt j (by omega), List.getElem?_append_left (by omega)]
 · by_cases hroom : n + 1 ≤ cap
   · obtain ⟨cur, hgc, hcs⟩ : ∃ cur, w.heap[g']? = some (.cells cur e (0, 0)) ∧ cur.size = cap * 1 := by
      rcases hown.2 with ⟨h', _⟩ | ⟨g2, cap2, cur, h', _, hgc, _, _, hcs, _⟩
      · simp at h'
      · simp only [Value.slice.injEq, Option.some.injEq, Addr.mk.injEq, and_true, true_and] at h'
        obtain ⟨rfl, rfl⟩ := h'
        exact ⟨cur, hgc, hcs⟩
     have hr2 := run_append_room (P := P) w t ty e i ht hi g' n cap cur hgc ad 1 c [x] (by simp [hs]) hnews hone hroom (by simp [hs, hcs]; omega)
     rw [hrun] at hr2
     injection hr2 with e1 e2
     subst e1
     simp [Value.ownBlock] at h5
     omega
   · obtain ⟨v2, w2, hr2, _, hg2⟩ := run_append_arg_grows (P := P) w t ty e i z 1 by8 ht hi hz hs hby hz1 (by omega) ⟨g', 0, none⟩ n cap xs (by omega) hold ad 1 c [x] rfl hnews (by omega) hm hb
     rw [hrun] at hr2
     injection hr2 with e1 e2
     subst e2
     exact World.cell?_of_block (w := w) (a := ⟨g', j, none⟩) (hg2.block g' hlt (by simp))
theorem wp_app1 {o : Oper} {a : Act} {K : Act → World → Prop} {Q : Exit → Act → World → Prop} (s y : Operand) {t e : TypeId} {z : Value} {by8 : Nat}
 (ho : o.op = .call { callee := .builtin .append, args := #[s, y], argTypes := #[t, t] }) (ht : P.underlying t = some (.slice e)) (hi : (P.info? e).map (fun i => (i.zero, i.size, i.bytes)) = some (some z, 1, by8)) (hz1 : z.cells.size = 1) (h8 : by8 ≤ 64)
 (base : Nat) (v : Value) (n : Nat) (xs : List Value) (hs : a.eval s = v) (hown : w.ownsRow base e 1 v n xs) (ad : Addr) (c : Nat) (hy : a.eval y = .slice (some ad) 1 c) (x : Value) (hx : w.cell? (ad.add 0) = some x) (h1 : x.oneCell' = true) (hn : n ≤ 1000000) (hbase : base ≤ w.heap.size)
 (hK : ∀ v' w', w'.ownsRow base e 1 v' (n + 1) (xs ++ [x]) → w.grownBy w' v.ownBlock → (v'.ownBlock = v.ownBlock ∨ v'.ownBlock = some w.heap.size) → (∀ g, v.ownBlock = some g → ∀ j, j < n → w'.cell? ⟨g, j, none⟩ = w.cell? ⟨g, j, none⟩) → K (a.put o.dst v') w') : o.wp P a w K Q := by
 obtain ⟨v', w', hrun, h2, h3, h4, h5⟩ := run_app1 (P := P) w base o.type ht hi hz1 h8 v n xs hown ad c x hx h1 hn hbase
 unfold Oper.wp execOp
 simp only [ho, resolve, invoke, builtin, Sem.run_bind, Sem.run_pure, Result.andThen_ok, List.map_toArray, List.map_cons, List.map_nil, hs, hy, hrun]
 exact hK v' w' h2 h3 h4 h5
theorem wpList_app1 {ops : Array Oper} {rest : List Oper} {o : Oper} {a : Act} {Q : Exit → Act → World → Prop} (hgd : o.guard = none) (s y : Operand) {t e : TypeId} {z : Value} {by8 : Nat}
 (ho : o.op = .call { callee := .builtin .append, args := #[s, y], argTypes := #[t, t] }) (ht : P.underlying t = some (.slice e)) (hi : (P.info? e).map (fun i => (i.zero, i.size, i.bytes)) = some (some z, 1, by8)) (hz1 : z.cells.size = 1) (h8 : by8 ≤ 64)
 (base : Nat) (v : Value) (n : Nat) (xs : List Value) (hs : a.eval s = v) (hown : w.ownsRow base e 1 v n xs) (ad : Addr) (c : Nat) (hy : a.eval y = .slice (some ad) 1 c) (x : Value) (hx : w.cell? (ad.add 0) = some x) (h1 : x.oneCell' = true) (hn : n ≤ 1000000) (hbase : base ≤ w.heap.size)
 (hK : ∀ v' w', w'.ownsRow base e 1 v' (n + 1) (xs ++ [x]) → w.grownBy w' v.ownBlock → (v'.ownBlock = v.ownBlock ∨ v'.ownBlock = some w.heap.size) → (∀ g, v.ownBlock = some g → ∀ j, j < n → w'.cell? ⟨g, j, none⟩ = w.cell? ⟨g, j, none⟩) → wpList P ops Q rest (a.put o.dst v') w') : wpList P ops Q (o :: rest) a w :=
 wpList_plain hgd fun _ hK2 => wp_app1 w s y ho ht hi hz1 h8 base v n xs hs hown ad c hy x hx h1 hn hbase fun v' w' h2 h3 h4 h5 => hK2 _ _ (hK v' w' h2 h3 h4 h5)
theorem step_app1 {ops : Array Oper} {o : Oper} {a : Act} {K : Act → World → Prop} {Q : Exit → Act → World → Prop} {E : Prop} (hgd : o.guard = none) (s y : Operand) {t e : TypeId} {z : Value} {by8 : Nat}
 (ho : o.op = .call { callee := .builtin .append, args := #[s, y], argTypes := #[t, t] }) (ht : P.underlying t = some (.slice e)) (hi : (P.info? e).map (fun i => (i.zero, i.size, i.bytes)) = some (some z, 1, by8)) (hz1 : z.cells.size = 1) (h8 : by8 ≤ 64)
 (base : Nat) (v : Value) (n : Nat) (xs : List Value) (hs : a.eval s = v) (hown : w.ownsRow base e 1 v n xs) (ad : Addr) (c : Nat) (hy : a.eval y = .slice (some ad) 1 c) (x : Value) (hx : w.cell? (ad.add 0) = some x) (h1 : x.oneCell' = true) (hn : n ≤ 1000000) (hbase : base ≤ w.heap.size)
 (hK : ∀ v' w', w'.ownsRow base e 1 v' (n + 1) (xs ++ [x]) → w.grownBy w' v.ownBlock → (v'.ownBlock = v.ownBlock ∨ v'.ownBlock = some w.heap.size) → (∀ g, v.ownBlock = some g → ∀ j, j < n → w'.cell? ⟨g, j, none⟩ = w.cell? ⟨g, j, none⟩) → K (a.put o.dst v') w') :
 if Region.wanted o (yielded ops a.tmps) = true then Oper.wp P o a w K Q else E := by
 rw [if_pos (by simp [Region.wanted, hgd])]
 exact wp_app1 w s y ho ht hi hz1 h8 base v n xs hs hown ad c hy x hx h1 hn hbase hK
end
def PartsRd (w : World) (A : Option Addr) (k : Nat) (ps : List (List UInt8)) : Prop :=
 ps.length = k ∧ (0 < k → ∃ b off, A = some ⟨b, off, none⟩ ∧ b < w.heap.size ∧ ∀ j, j < k → ∃ Aj nj cj, w.cell? ⟨b, off + j, none⟩ = some (.slice Aj nj cj) ∧ RdS w Aj nj cj (ps.getD j []))
theorem PartsRd.below {w w' : World} {A : Option Addr} {k : Nat} {ps : List (List UInt8)} (h : PartsRd w A k ps) (hb : Below w.heap.size w w') : PartsRd w' A k ps := by
 refine ⟨h.1, fun hk => ?_⟩
 obtain ⟨b, off, hA, hlt, hc⟩ := h.2 hk
 refine ⟨b, off, hA, Nat.lt_of_lt_of_le hlt hb.size, fun j hj => ?_⟩
 obtain ⟨Aj, nj, cj, h1, h2⟩ := hc j hj
 exact ⟨Aj, nj, cj, (hb.cell (p := ⟨b, off + j, none⟩) hlt).trans h1, h2.below hb⟩
end Go.Proofs.YtmkeioeodlidgaaGreatDoor

namespace Go.Proofs.YtmkeioeodlidgaaGreatDoor
open Go.RowKit
set_option linter.unusedVariables false

def ucells (L : List Nat) : List Value := L.map fun x : Nat => .int .u32 (x : Int)
theorem ucells_len (L : List Nat) : (ucells L).length = L.length := by simp [ucells]
theorem ucells_snoc (L : List Nat) (x : Nat) : ucells (L ++ [x]) = ucells L ++ [.int .u32 (x : Int)] := by simp [ucells]
theorem ucells_at {L : List Nat} {j : Nat} (h : j < L.length) : (ucells L)[j]? = some (.int .u32 ((L.getD j 0 : Nat) : Int)) := by simp [ucells, List.getD, h]
def srcs (bs : List UInt8) (n : Nat) : List Nat := (List.range n).map fun i => numb ((bs.drop (4 * i)).take 4)
theorem srcs_len (bs : List UInt8) (n : Nat) : (srcs bs n).length = n := by simp [srcs]
theorem srcs_succ (bs : List UInt8) (n : Nat) : srcs bs (n + 1) = srcs bs n ++ [numb ((bs.drop (4 * n)).take 4)] := by simp [srcs, List.range_succ]
theorem numb_take_lt (bs : List UInt8) (m : Nat) : numb (bs.take m) < 256 ^ m := by
 have h := numb_lt (bs.take m)
 have h2 : 256 ^ (bs.take m).length ≤ 256 ^ m := Nat.pow_le_pow_right (by omega) (by rw [List.length_take]; omega)
 omega
theorem take_take_all (bs : List UInt8) (m : Nat) : ((bs.take m).drop 0).take m = bs.take m := by rw [List.drop_zero, List.take_take, Nat.min_self]
theorem grown_below {w w1 w2 : World} {r : Option Nat} (h : w.grownBy w1 r) (hb : Below w.heap.size w1 w2) : w.grownBy w2 r := ⟨hb.os.trans h.os, hb.tape.trans h.tape, hb.output.trans h.output, Nat.le_trans h.size hb.size, fun k hk hr => (hb.block k hk).trans (h.block k hk hr)⟩
theorem own_mono {w : World} {base base' n : Nat} {e : TypeId} {v : Value} {xs : List Value} (h : w.ownsRow base e 1 v n xs) (hb : base' ≤ base) : w.ownsRow base' e 1 v n xs := by
 obtain ⟨h1, h2⟩ := h
 refine ⟨h1, ?_⟩
 rcases h2 with h2 | ⟨g, cap, cur, hv, hg, hr⟩
 · exact .inl h2
 · exact .inr ⟨g, cap, cur, hv, by omega, hr⟩
theorem own_only {w w' : World} {g base n : Nat} {e : TypeId} {v : Value} {xs : List Value} (h : w.ownsRow base e 1 v n xs) (ho : Only g w w') (hg : g < base) : w'.ownsRow base e 1 v n xs := by
 refine h.kept ho.grown ?_
 rcases hq : v.ownBlock with _ | q
 · exact .inl rfl
 · refine .inr fun e => ?_
   injection e with e
   have := (h.lt q hq).1
   omega

set_option maxRecDepth 100000 in
theorem number_okR (g m : Nat) (mi : Int) (hmi : mi = m) (bs : List UInt8) (w : World) (h : RdrR w g bs) (h1 : 1 ≤ m) (h8 : m ≤ 8) (hm : m ≤ bs.length) :
 Calls Tryz.prog 87 #[.pointer (some ⟨g, 0, none⟩), .int .i64 mi] w fun e w' => e = .returned (.int .u64 (numb (bs.take m))) ∧ RdrR w' g (bs.drop m) ∧ Only g w w' := by
 subst hmi
 have HB := Lib.hid (bytes_okR g m bs w h hm)
 have HN : Hid (∀ A c wx, RdS wx A m c (bs.take m) → Calls Tryz.prog 74 #[.slice A m c, .int .i64 0, .int .i64 m] wx fun e w' => e = .returned (.tuple #[.int .u64 (numb (bs.take m)), .bool true]) ∧ wx = w') := Lib.hid fun A c wx hr => by
  have := num_yes A m c (bs.take m) 0 m wx hr h1 h8 (by omega)
  rw [take_take_all] at this
  exact this
 clear h
 go_enter Tryz.func87, Tryz.ntmps87
 go_wp2_with (first
  | (go_at_call 100; ((with_reducible refine (Hid.out HB).mono ?_); rintro e w' ⟨A, c, rfl, hR, hr, ho⟩))
  | (go_at_call 74; ((with_reducible refine (Hid.out HN A c _ hR).mono ?_); rintro e w2 ⟨rfl, rfl⟩)))
 go_ret
 exact ⟨rfl, hr, ho⟩

set_option maxRecDepth 100000 in
theorem number_no (g m : Nat) (mi : Int) (hmi : mi = m) (bs : List UInt8) (w : World) (h : RdrR w g bs) (hm : bs.length < m) :
 Calls Tryz.prog 87 #[.pointer (some ⟨g, 0, none⟩), .int .i64 mi] w fun e w' => e = .panicked (gone 2) ∧ w = w' := by
 subst hmi
 have HB := Lib.hid (bytes_no g m bs w h (by omega))
 clear h
 go_enter Tryz.func87, Tryz.ntmps87
 go_wp2_with (go_at_call 100; ((with_reducible refine (Hid.out HB).mono ?_); rintro e w' ⟨rfl, rfl⟩))
 exact ⟨rfl, rfl, rfl⟩

theorem clone_any (A : Option Addr) (n c : Nat) (bs : List UInt8) (w : World) (hr : RdS w A n c bs) (hs : n ≤ 1000000) :
 Calls Tryz.prog 91 #[.slice A n c] w fun e w' => ∃ A' c', e = .returned (.slice A' n c') ∧ w'.ownsRow w.heap.size 5 1 (.slice A' n c') n (cells bs) ∧ Below w.heap.size w w' := by
 go_enter Tryz.func91, Tryz.ntmps91
 go_wp2_with (at_builtin; refine wpList_append_rd _ rfl (.const (.slice none 0 0)) (.tmp 3) rfl Tryz.underlying35 u8_info w.heap.size (.slice none 0 0) 0 [] rfl (World.ownsRow_nil w _ _ _) A n c bs rfl hr (by omega) (Nat.le_refl _) ?_; intro v1 w1 hown1 hg1 hat1)
 rw [Nat.zero_add, List.nil_append] at hown1
 obtain ⟨A', c', hv⟩ := own_form hown1
 subst hv
 go_ret
 exact ⟨A', c', rfl, hown1, below_of_grown hg1 (Nat.le_refl _) (fun k hk => by simp [Value.ownBlock] at hk)⟩

theorem u32_inf : (Tryz.prog.info? 33).map (fun i => (i.zero, i.size, i.bytes)) = some (some (.int .u32 0), 1, 4) := by kernel_rfl

set_option maxRecDepth 100000 in
set_option maxHeartbeats 1000000 in
theorem sources_any (g n : Nat) (ni : Int) (hni : ni = n) (bs : List UInt8) (w : World) (h : RdrR w g bs) (hn : n ≤ 15) :
 Calls Tryz.prog 88 #[.pointer (some ⟨g, 0, none⟩), .int .i64 ni] w fun e w' => ((4 * n ≤ bs.length ∧ ∃ A c, e = .returned (.slice A n c) ∧ w'.ownsRow w.heap.size 33 1 (.slice A n c) n (ucells (srcs bs n)) ∧ RdrR w' g (bs.drop (4 * n))) ∨ (bs.length < 4 * n ∧ e = .panicked (gone 2))) ∧ w.grownBy w' (some g) := by
 subst hni
 have hlt := h.lt
 go_enter Tryz.func88, Tryz.ntmps88
 go_wp2
 go_loopw [5, 7] (fun v i wr => ∃ (k : Nat) (A : Option Addr) (c : Nat), k ≤ n ∧ 4 * k ≤ bs.length ∧ i = .int .i64 k ∧ v = .slice A k c ∧ wr.ownsRow w.heap.size 33 1 (.slice A k c) k (ucells (srcs bs k)) ∧ RdrR wr g (bs.drop (4 * k)) ∧ w.grownBy wr (some g)) (fun _ i _ => n - (intOf i).toNat)
 case atStart => exact ⟨0, none, 0, by omega, by omega, rfl, rfl, World.ownsRow_nil w _ _ _, by simpa using h, World.grownBy.refl w _⟩
 case round =>
  obtain ⟨k, A, c, hk, hkl, rfl, rfl, hown, hrd, hg⟩ := hrel
  by_cases hkn : k < n
  · by_cases hfit : 4 * (k + 1) ≤ bs.length
    · have HN := Lib.hid (number_okR g 4 4 rfl (bs.drop (4 * k)) wr hrd (by omega) (by omega) (by rw [List.length_drop]; omega))
      have hu : numb ((bs.drop (4 * k)).take 4) < 4294967296 := by have := numb_take_lt (bs.drop (4 * k)) 4; simpa using this
      obtain ⟨x, hx⟩ : ∃ x, x = numb ((bs.drop (4 * k)).take 4) := ⟨_, rfl⟩
      have hsn : srcs bs (k + 1) = srcs bs k ++ [x] := by rw [hx]; exact srcs_succ bs k
      have hdd : (bs.drop (4 * k)).drop 4 = bs.drop (4 * (k + 1)) := by rw [List.drop_drop]; rfl
      rw [← hx, hdd] at HN
      rw [← hx] at hu
      have HS := Lib.hid hsn
      have HO := Lib.hid hown
      have hgs := hg.size
      clear hx hsn hdd hown hrd h
      go_wp2_with (first
       | (go_at_call 87; ((with_reducible refine (Hid.out HN).mono ?_); rintro e w1 ⟨rfl, hr1, ho1⟩; have hown1 := own_only HO.out ho1 hlt; have HZ := Lib.hid ho1.size))
       | (at_builtin; refine wpList_app1 _ rfl (.tmp 9) (.tmp 13) rfl Tryz.underlying34 u32_inf rfl (by omega) w.heap.size (.slice A k c) k (ucells (srcs bs k)) rfl (hown1.alloc _) ⟨w1.heap.size, 0, none⟩ 1 rfl (.int .u32 (x : Int)) (cell_one_new _ _ _ 0 _ rfl) rfl (by omega) (by have := HZ.out; simp; omega) ?_; intro v2 w2 hown2 hg2 hat2 _; obtain ⟨A2, c2, hv2⟩ := own_form hown2; subst hv2; have hr2 := hr1.below ((Below.refl _ _).alloc (Nat.le_refl _) (.cells #[.int .u32 (x : Int)] 33)); have hlt1 := hown1.lt))
      have hg12 : w1.grownBy w2 (Value.ownBlock (.slice A k c)) := ((Below.refl w1.heap.size w1).alloc (Nat.le_refl _) (.cells #[.int .u32 (x : Int)] 33)) |> fun b => (grown_of_below b _).trans hg2
      have hr3 : RdrR w2 g (bs.drop (4 * (k + 1))) := hr1.grown hg12 (fun p hp => by have := (hlt1 p hp).1; omega)
      have hgg : w.grownBy w2 (some g) := grown_below (hg.trans ho1.grown) (below_of_grown hg12 (by have := HZ.out; omega) (fun p hp => (hlt1 p hp).1))
      go_roundw
      case rel => exact ⟨k + 1, A2, c2, by omega, hfit, by go_num, rfl, by rw [HS.out, ucells_snoc]; exact hown2, hr3, hgg⟩
      case measure => simp [intOf]; omega
    · have HN := Lib.hid (number_no g 4 4 rfl (bs.drop (4 * k)) wr hrd (by rw [List.length_drop]; omega))
      clear hown hrd h
      go_wp2_with (go_at_call 87; ((with_reducible refine (Hid.out HN).mono ?_); rintro e w1 ⟨rfl, rfl⟩))
      exact ⟨rfl, .inr ⟨by omega, rfl⟩, hg⟩
  · obtain rfl : k = n := by omega
    clear h
    go_wp2
    go_ret
    exact ⟨.inl ⟨hkl, A, c, rfl, hown, hrd⟩, hg⟩
set_option maxRecDepth 100000 in
theorem padding_ok (g : Nat) (bs : List UInt8) (k : Nat) (w : World) (h : RdrR w g bs) (hk : k = (bs.getD (bs.length - 1) 0).toNat) (h1 : 1 ≤ k) (h2 : k ≤ bs.length) :
 Calls Tryz.prog 90 #[.pointer (some ⟨g, 0, none⟩)] w fun e w' => e = .returned (.int .u8 (k : Int)) ∧ RdrR w' g (bs.take (bs.length - k)) ∧ Only g w w' := by
 obtain ⟨A, n, c, hB, hR, hL⟩ := h
 have hl := hR.len
 have hs := hR.small
 have hle := hR.le
 have hc := hB.cell 0
 have hf := hB.frozen 0
 simp only [List.getElem?_cons_zero] at hc
 have hk8 : k < 256 := by have := (bs.getD (bs.length - 1) 0).toNat_lt; omega
 obtain ⟨b, off, rfl, hlt, hcs⟩ := hR.2.2.2.2 (by omega)
 have hlast := hcs (n - 1) (by omega)
 rw [← hl, ← hk, hl] at hlast
 have HH := Lib.hid (hR.headR (n - k) (by omega))
 have HL := Lib.hid hL
 have HO := Lib.hid (hL.off (Nat.le_refl g))
 have HB := Lib.hid hB
 have e1 : ((n : Int) == 0) = false := by simp; omega
 have e2 : ((k : Int) == 0) = false := by simp; omega
 have e3 : ((n : Int) - 1) = ((n - 1 : Nat) : Int) := by omega
 have e4 : ((n : Int) - (k : Int)) = ((n - k : Nat) : Int) := by omega
 have hkn : k ≤ n := by omega
 rw [hl]
 clear hR hB hL hk hcs hl h2
 go_enter Tryz.func90, Tryz.ntmps90
 go_wp2_with (first
  | (go_at_call 65; ((with_reducible refine (refuse_noR _ _ _ ?_).mono ?_); (first | rfl | assumption | (simp; omega)); rintro e w' ⟨rfl, rfl⟩)))
 go_ret
 have ho := Only.set w g 0 (.slice (some ⟨b, off, none⟩) (n - k) c)
 exact ⟨rfl, ⟨_, _, _, HB.out.set_ 0 _, HH.out.only ho (fun h0 => HO.out (by omega)), fun h0 => HL.out (by omega)⟩, ho⟩

set_option maxRecDepth 100000 in
theorem padding_no (g : Nat) (bs : List UInt8) (k : Nat) (w : World) (h : RdrR w g bs) (hk : k = (bs.getD (bs.length - 1) 0).toNat) (h1 : bs.length = 0 ∨ k = 0 ∨ bs.length < k) :
 Calls Tryz.prog 90 #[.pointer (some ⟨g, 0, none⟩)] w fun e w' => e = .panicked (gone 3) ∧ w = w' := by
 obtain ⟨A, n, c, hB, hR, hL⟩ := h
 have hl := hR.len
 have hs := hR.small
 have hle := hR.le
 have hc := hB.cell 0
 simp only [List.getElem?_cons_zero] at hc
 have hk8 : k < 256 := by have := (bs.getD (bs.length - 1) 0).toNat_lt; omega
 by_cases h0 : n = 0
 · subst h0
   clear hR hB hL hk hl h1
   go_enter Tryz.func90, Tryz.ntmps90
   go_wp2_with (go_at_call 65; ((with_reducible refine (refuse_yes _ _ _ ?_).mono ?_); (first | rfl | assumption | (simp; omega)); rintro e w' ⟨rfl, rfl⟩))
   exact ⟨rfl, rfl, rfl⟩
 · obtain ⟨b, off, rfl, hlt, hcs⟩ := hR.2.2.2.2 (by omega)
   have hlast := hcs (n - 1) (by omega)
   rw [← hl, ← hk, hl] at hlast
   have e1 : ((n : Int) == 0) = false := by simp; omega
   have e3 : ((n : Int) - 1) = ((n - 1 : Nat) : Int) := by omega
   rw [hl] at h1
   have h1' : k = 0 ∨ (n < k ∧ ((k : Int) == 0) = false) := by
    rcases h1 with h1 | h1 | h1
    · exact absurd h1 h0
    · exact .inl h1
    · exact .inr ⟨h1, by simp; omega⟩
   clear hR hB hL hk hcs hl h1
   rcases h1' with h1 | ⟨h1, h2⟩
   · subst h1
     go_enter Tryz.func90, Tryz.ntmps90
     go_wp2_with (first
      | (go_at_call 65; ((with_reducible refine (refuse_noR _ _ _ ?_).mono ?_); (first | rfl | assumption | (simp; omega)); rintro e w' ⟨rfl, rfl⟩))
      | (go_at_call 65; ((with_reducible refine (refuse_yes _ _ _ ?_).mono ?_); (first | rfl | assumption | (simp; omega)); rintro e w' ⟨rfl, rfl⟩)))
     exact ⟨rfl, rfl, rfl⟩
   · go_enter Tryz.func90, Tryz.ntmps90
     go_wp2_with (first
      | (go_at_call 65; ((with_reducible refine (refuse_noR _ _ _ ?_).mono ?_); (first | rfl | assumption | (simp; omega)); rintro e w' ⟨rfl, rfl⟩))
      | (go_at_call 65; ((with_reducible refine (refuse_yes _ _ _ ?_).mono ?_); (first | rfl | assumption | (simp; omega)); rintro e w' ⟨rfl, rfl⟩)))
     exact ⟨rfl, rfl, rfl⟩

def wdN (bs : List UInt8) : Nat := numb ((bs.drop 2).take 2)
theorem wdN_lt (bs : List UInt8) : wdN bs < 65536 := by have := numb_take_lt (bs.drop 2) 2; simpa [wdN] using this

set_option maxRecDepth 100000 in
set_option maxHeartbeats 1000000 in
theorem ext_ok (g : Nat) (bs : List UInt8) (w : World) (h : RdrR w g bs) (h4 : 4 + 4 * wdN bs ≤ bs.length) (hw : wdN bs ≤ 255) :
 Calls Tryz.prog 89 #[.pointer (some ⟨g, 0, none⟩)] w fun e w' => ∃ A c, e = .returned (.tuple #[.int .u16 (numb (bs.take 2)), .slice A (4 * wdN bs) c]) ∧ w'.ownsRow w.heap.size 5 1 (.slice A (4 * wdN bs) c) (4 * wdN bs) (cells ((bs.drop 4).take (4 * wdN bs))) ∧ RdrR w' g (bs.drop (4 + 4 * wdN bs)) ∧ w.grownBy w' (some g) := by
 have hp : numb (bs.take 2) < 65536 := by have := numb_take_lt bs 2; simpa using this
 have H1 := Lib.hid (number_okR g 2 2 rfl bs w h (by omega) (by omega) (by omega))
 have H2 : Hid (∀ wx, RdrR wx g (bs.drop 2) → Calls Tryz.prog 87 #[.pointer (some ⟨g, 0, none⟩), .int .i64 2] wx fun e w' => e = .returned (.int .u64 (wdN bs : Nat)) ∧ RdrR w' g (bs.drop 4) ∧ Only g wx w') := Lib.hid fun wx hx => by
  have := number_okR g 2 2 rfl (bs.drop 2) wx hx (by omega) (by omega) (by rw [List.length_drop]; omega)
  rw [List.drop_drop] at this
  exact this
 have H3 : Hid (∀ wx, RdrR wx g (bs.drop 4) → Calls Tryz.prog 100 #[.pointer (some ⟨g, 0, none⟩), .int .i64 ((wdN bs : Int) * 4)] wx fun e w' => ∃ A c, e = .returned (.slice A (4 * wdN bs) c) ∧ RdS w' A (4 * wdN bs) c ((bs.drop 4).take (4 * wdN bs)) ∧ RdrR w' g (bs.drop (4 + 4 * wdN bs)) ∧ Only g wx w') := Lib.hid fun wx hx => by
  have := bytes_okR g (4 * wdN bs) (bs.drop 4) wx hx (by rw [List.length_drop]; omega)
  rw [List.drop_drop] at this
  rw [show ((wdN bs : Int) * 4) = ((4 * wdN bs : Nat) : Int) by omega]
  exact this
 obtain ⟨P, hP⟩ : ∃ P, P = numb (bs.take 2) := ⟨_, rfl⟩
 obtain ⟨W, hW⟩ : ∃ W, W = wdN bs := ⟨_, rfl⟩
 obtain ⟨M, hM⟩ : ∃ M, M = 4 * W := ⟨_, rfl⟩
 rw [← hP] at H1 hp
 simp only [← hW, ← hM] at H2 H3 h4 hw
 rw [← hP, ← hW, ← hM]
 have hMs : M ≤ 1000000 := by omega
 have hlt := h.lt
 have HM := Lib.hid hM
 clear hP hW h hM h4
 go_enter Tryz.func89, Tryz.ntmps89
 go_wp2_with (first
  | (go_at_call 87; ((with_reducible refine (Hid.out H1).mono ?_); rintro e w1 ⟨rfl, hr1, ho1⟩; have G1 := Lib.hid ho1))
  | (go_at_call 87; ((with_reducible refine (Hid.out H2 _ hr1).mono ?_); rintro e w2 ⟨rfl, hr2, ho2⟩; have G2 := Lib.hid ho2))
  | (go_at_call 100; ((with_reducible refine (Hid.out H3 _ hr2).mono ?_); rintro e w3 ⟨A, c, rfl, hR3, hr3, ho3⟩; have G3 := Lib.hid ho3))
  | (go_at_call 65; ((with_reducible refine (refuse_noR _ _ _ ?_).mono ?_); (first | rfl | assumption | (simp; omega)); rintro e w' ⟨rfl, rfl⟩))
  | (go_at_call 91; ((with_reducible refine (clone_any A M c _ _ hR3 hMs).mono ?_); rintro e w4 ⟨A4, c4, rfl, hown4, hb4⟩)))
 go_ret2
 have o13 := (G1.out.trans G2.out).trans G3.out
 exact ⟨A4, c4, rfl, own_mono hown4 (by rw [o13.size]; omega), hr3.below hb4, o13.grown.trans (grown_of_below hb4 _)⟩

set_option maxRecDepth 100000 in
set_option maxHeartbeats 1000000 in
theorem ext_long (g : Nat) (bs : List UInt8) (w : World) (h : RdrR w g bs) (h4 : 4 + 4 * wdN bs ≤ bs.length) (hw : 255 < wdN bs) :
 Calls Tryz.prog 89 #[.pointer (some ⟨g, 0, none⟩)] w fun e w' => e = .panicked (gone 3) ∧ w.grownBy w' (some g) := by
 have hp : numb (bs.take 2) < 65536 := by have := numb_take_lt bs 2; simpa using this
 have hwl := wdN_lt bs
 have H1 := Lib.hid (number_okR g 2 2 rfl bs w h (by omega) (by omega) (by omega))
 have H2 : Hid (∀ wx, RdrR wx g (bs.drop 2) → Calls Tryz.prog 87 #[.pointer (some ⟨g, 0, none⟩), .int .i64 2] wx fun e w' => e = .returned (.int .u64 (wdN bs : Nat)) ∧ RdrR w' g (bs.drop 4) ∧ Only g wx w') := Lib.hid fun wx hx => by
  have := number_okR g 2 2 rfl (bs.drop 2) wx hx (by omega) (by omega) (by rw [List.length_drop]; omega)
  rw [List.drop_drop] at this
  exact this
 have H3 : Hid (∀ wx, RdrR wx g (bs.drop 4) → Calls Tryz.prog 100 #[.pointer (some ⟨g, 0, none⟩), .int .i64 ((wdN bs : Int) * 4)] wx fun e w' => ∃ A c, e = .returned (.slice A (4 * wdN bs) c) ∧ RdS w' A (4 * wdN bs) c ((bs.drop 4).take (4 * wdN bs)) ∧ RdrR w' g (bs.drop (4 + 4 * wdN bs)) ∧ Only g wx w') := Lib.hid fun wx hx => by
  have := bytes_okR g (4 * wdN bs) (bs.drop 4) wx hx (by rw [List.length_drop]; omega)
  rw [List.drop_drop] at this
  rw [show ((wdN bs : Int) * 4) = ((4 * wdN bs : Nat) : Int) by omega]
  exact this
 obtain ⟨P, hP⟩ : ∃ P, P = numb (bs.take 2) := ⟨_, rfl⟩
 obtain ⟨W, hW⟩ : ∃ W, W = wdN bs := ⟨_, rfl⟩
 obtain ⟨M, hM⟩ : ∃ M, M = 4 * W := ⟨_, rfl⟩
 rw [← hP] at H1 hp
 simp only [← hW, ← hM] at H2 H3 h4 hw hwl
 clear hP hW h hM h4
 go_enter Tryz.func89, Tryz.ntmps89
 go_wp2_with (first
  | (go_at_call 87; ((with_reducible refine (Hid.out H1).mono ?_); rintro e w1 ⟨rfl, hr1, ho1⟩; have G1 := Lib.hid ho1))
  | (go_at_call 87; ((with_reducible refine (Hid.out H2 _ hr1).mono ?_); rintro e w2 ⟨rfl, hr2, ho2⟩; have G2 := Lib.hid ho2))
  | (go_at_call 100; ((with_reducible refine (Hid.out H3 _ hr2).mono ?_); rintro e w3 ⟨A, c, rfl, hR3, hr3, ho3⟩; have G3 := Lib.hid ho3))
  | (go_at_call 65; ((with_reducible refine (refuse_yes _ _ _ ?_).mono ?_); (first | rfl | assumption | (simp; omega)); rintro e w' ⟨rfl, rfl⟩)))
 exact ⟨rfl, rfl, ((G1.out.trans G2.out).trans G3.out).grown⟩

set_option maxRecDepth 100000 in
set_option maxHeartbeats 1000000 in
theorem ext_short (g : Nat) (bs : List UInt8) (w : World) (h : RdrR w g bs) (h4 : bs.length < 4 ∨ bs.length < 4 + 4 * wdN bs) :
 Calls Tryz.prog 89 #[.pointer (some ⟨g, 0, none⟩)] w fun e w' => e = .panicked (gone 2) ∧ w.grownBy w' (some g) := by
 by_cases h2 : bs.length < 2
 · have H1 := Lib.hid (number_no g 2 2 rfl bs w h h2)
   clear h h4
   go_enter Tryz.func89, Tryz.ntmps89
   go_wp2_with (go_at_call 87; ((with_reducible refine (Hid.out H1).mono ?_); rintro e w1 ⟨rfl, rfl⟩))
   exact ⟨rfl, rfl, World.grownBy.refl w _⟩
 have hp : numb (bs.take 2) < 65536 := by have := numb_take_lt bs 2; simpa using this
 have H1 := Lib.hid (number_okR g 2 2 rfl bs w h (by omega) (by omega) (by omega))
 by_cases h3 : bs.length < 4
 · have H2 := Lib.hid (fun wx (hx : RdrR wx g (bs.drop 2)) => number_no g 2 2 rfl (bs.drop 2) wx hx (by rw [List.length_drop]; omega))
   obtain ⟨P, hP⟩ : ∃ P, P = numb (bs.take 2) := ⟨_, rfl⟩
   rw [← hP] at H1 hp
   clear h h4 hP h2 h3
   go_enter Tryz.func89, Tryz.ntmps89
   go_wp2_with (first
    | (go_at_call 87; ((with_reducible refine (Hid.out H1).mono ?_); rintro e w1 ⟨rfl, hr1, ho1⟩; have G1 := Lib.hid ho1))
    | (go_at_call 87; ((with_reducible refine (Hid.out H2 _ hr1).mono ?_); rintro e w2 ⟨rfl, rfl⟩)))
   exact ⟨rfl, rfl, G1.out.grown⟩
 have hwl := wdN_lt bs
 have H2 : Hid (∀ wx, RdrR wx g (bs.drop 2) → Calls Tryz.prog 87 #[.pointer (some ⟨g, 0, none⟩), .int .i64 2] wx fun e w' => e = .returned (.int .u64 (wdN bs : Nat)) ∧ RdrR w' g (bs.drop 4) ∧ Only g wx w') := Lib.hid fun wx hx => by
  have := number_okR g 2 2 rfl (bs.drop 2) wx hx (by omega) (by omega) (by rw [List.length_drop]; omega)
  rw [List.drop_drop] at this
  exact this
 have H3 := Lib.hid (fun wx (hx : RdrR wx g (bs.drop 4)) => bytes_no g ((wdN bs : Int) * 4) (bs.drop 4) wx hx (by rw [List.length_drop]; omega))
 obtain ⟨P, hP⟩ : ∃ P, P = numb (bs.take 2) := ⟨_, rfl⟩
 obtain ⟨W, hW⟩ : ∃ W, W = wdN bs := ⟨_, rfl⟩
 rw [← hP] at H1 hp
 simp only [← hW] at H2 H3 h4 hwl
 clear hP hW h h4 h2 h3
 go_enter Tryz.func89, Tryz.ntmps89
 go_wp2_with (first
  | (go_at_call 87; ((with_reducible refine (Hid.out H1).mono ?_); rintro e w1 ⟨rfl, hr1, ho1⟩; have G1 := Lib.hid ho1))
  | (go_at_call 87; ((with_reducible refine (Hid.out H2 _ hr1).mono ?_); rintro e w2 ⟨rfl, hr2, ho2⟩; have G2 := Lib.hid ho2))
  | (go_at_call 100; ((with_reducible refine (Hid.out H3 _ hr2).mono ?_); rintro e w3 ⟨rfl, rfl⟩)))
 exact ⟨rfl, rfl, (G1.out.trans G2.out).grown⟩
def rtpC (m : Bool) (ty sq st so : Nat) (O : Value) (x : Bool) (pf : Nat) (E L : Value) (pd : Nat) : List Value :=
 [.bool m, .int .u8 (ty : Int), .int .u16 (sq : Int), .int .u32 (st : Int), .int .u32 (so : Int), O, .bool x, .int .u16 (pf : Int), E, L, .int .u8 (pd : Int)]
def zeroC : List Value := rtpC false 0 0 0 0 (.slice none 0 0) false 0 (.slice none 0 0) (.slice none 0 0) 0
theorem zero28 (w : World) : (zeroValue 37).run Tryz.prog w = .ok (.agg zeroC.toArray) w := by kernel_rfl
theorem row11_ : RowTy Tryz.prog 37 11 := ⟨_, Tryz.underlying37, rfl, by kernel_rfl⟩
theorem row11 {n : Nat} (h : n = 11) : RowTy Tryz.prog 37 n := h ▸ row11_

def bt (bs : List UInt8) (i : Nat) : Nat := (bs.getD i 0).toNat
theorem bt_lt (bs : List UInt8) (i : Nat) : bt bs i < 256 := (bs.getD i 0).toNat_lt
theorem numb_one (bs : List UInt8) (i : Nat) (h : i < bs.length) : numb ((bs.drop i).take 1) = bt bs i := by
 rw [List.drop_eq_getElem_cons h, List.take_succ_cons, List.take_zero]
 simp [numb, bt, List.getD, h]
def othN (bs : List UInt8) : Nat := bt bs 0 % 16
def at0 (bs : List UInt8) : Nat := 12 + 4 * othN bs
def sqN (bs : List UInt8) : Nat := numb ((bs.drop 2).take 2)
def stN (bs : List UInt8) : Nat := numb ((bs.drop 4).take 4)
def soN (bs : List UInt8) : Nat := numb ((bs.drop 8).take 4)
theorem sqN_lt (bs : List UInt8) : sqN bs < 65536 := by have := numb_take_lt (bs.drop 2) 2; simpa [sqN] using this
theorem stN_lt (bs : List UInt8) : stN bs < 4294967296 := by have := numb_take_lt (bs.drop 4) 4; simpa [stN] using this
theorem soN_lt (bs : List UInt8) : soN bs < 4294967296 := by have := numb_take_lt (bs.drop 8) 4; simpa [soN] using this

theorem and_u64 (x j : Nat) (hx : x < 18446744073709551616) (hj : j ≤ 32) (m : Int) (hm : m = ((2 ^ j - 1 : Nat) : Int)) : bits BinOp.and IntKind.u64 (x : Int) m = ((x % 2 ^ j : Nat) : Int) := by
 have h2 : 2 ^ j ≤ 2 ^ 32 := Nat.pow_le_pow_right (by omega) hj
 subst hm
 rw [u64_and_nat _ _ hx (by have : (2 : Nat) ^ 32 = 4294967296 := by decide
                            omega), Nat.and_two_pow_sub_one_eq_mod]
theorem rtpC_one (m : Bool) (ty sq st so : Nat) (A : Option Addr) (n a : Nat) (x : Bool) (pf : Nat) (B : Option Addr) (k b : Nat) (D : Option Addr) (l d : Nat) (pd : Nat) : ∀ v ∈ rtpC m ty sq st so (.slice A n a) x pf (.slice B k b) (.slice D l d) pd, v.oneCell' = true := by
 intro v hv
 simp only [rtpC, List.mem_cons, List.not_mem_nil, or_false] at hv
 rcases hv with rfl | rfl | rfl | rfl | rfl | rfl | rfl | rfl | rfl | rfl | rfl <;> rfl

structure Two (g p : Nat) (w w' : World) : Prop where
 os : w'.os = w.os
 tape : w'.tape = w.tape
 output : w'.output = w.output
 size : w.heap.size ≤ w'.heap.size
 block : ∀ k, k < w.heap.size → k ≠ g → k ≠ p → w'.heap[k]? = w.heap[k]?
section
variable {g p : Nat} {w w' w'' : World}
theorem Two.refl (g p : Nat) (w : World) : Two g p w w := ⟨rfl, rfl, rfl, Nat.le_refl _, fun _ _ _ _ => rfl⟩
theorem Two.trans (h : Two g p w w') (k : Two g p w' w'') : Two g p w w'' := ⟨k.os.trans h.os, k.tape.trans h.tape, k.output.trans h.output, Nat.le_trans h.size k.size, fun i hi h1 h2 => (k.block i (Nat.lt_of_lt_of_le hi h.size) h1 h2).trans (h.block i hi h1 h2)⟩
theorem Two.of_g (h : Only g w w') : Two g p w w' := ⟨h.os, h.tape, h.output, by rw [h.size]; exact Nat.le_refl _, fun k _ h1 _ => h.block k h1⟩
theorem Two.of_p (h : Only p w w') : Two g p w w' := ⟨h.os, h.tape, h.output, by rw [h.size]; exact Nat.le_refl _, fun k _ _ h2 => h.block k h2⟩
theorem Two.of_grown (h : w.grownBy w' (some g)) : Two g p w w' := ⟨h.os, h.tape, h.output, h.size, fun k hk h1 _ => h.block k hk (fun e => h1 (by injection e))⟩
theorem Two.of_below (h : Below w.heap.size w w') : Two g p w w' := ⟨h.os, h.tape, h.output, h.size, fun k hk _ _ => h.block k hk⟩
theorem Two.alloc (w : World) (o : Obj) : Two g p w (w.alloc o) := Two.of_below ((Below.refl _ _).alloc (Nat.le_refl _) o)
theorem Two.set_ (w : World) (j : Nat) (v : Value) : Two g p w (w.setCell ⟨p, j, none⟩ v) := Two.of_p (Only.set w p j v)
theorem Two.grown (h : Two g p w w') (hp : w.heap.size ≤ p) : w.grownBy w' (some g) := ⟨h.os, h.tape, h.output, h.size, fun k hk h1 => h.block k hk (fun e => h1 (by rw [e])) (by omega)⟩
theorem Two.blk {r : Nat} {e : TypeId} {cs : List Value} (h : Two g p w w') (hB : BlkV w r e cs) (h1 : r ≠ g) (h2 : r ≠ p) : BlkV w' r e cs := (h.block r hB.lt h1 h2).trans hB
theorem Two.own {base n : Nat} {e : TypeId} {v : Value} {xs : List Value} (h : Two g p w w') (ho : w.ownsRow base e 1 v n xs) (h1 : g < base) (h2 : ∀ q, v.ownBlock = some q → q ≠ p) : w'.ownsRow base e 1 v n xs := by
 obtain ⟨hl, hr⟩ := ho
 refine ⟨hl, ?_⟩
 rcases hr with hr | ⟨q, cap, cur, hv, hg, hh, hrest⟩
 · exact .inl hr
 · exact .inr ⟨q, cap, cur, hv, hg, (h.block q (Array.getElem?_eq_some_iff.1 hh).1 (by omega) (h2 q (by rw [hv]; rfl))).trans hh, hrest⟩
end

structure Pkt where
 m : Bool
 ty : Nat
 sq : Nat
 st : Nat
 so : Nat
 ot : List Nat
 x : Bool
 pf : Nat
 xt : List UInt8
 pl : List UInt8
 pd : Nat
def PkOwn (w : World) (base : Nat) (cs : List Value) (p : Pkt) : Prop := ∃ A a B b D d, cs = rtpC p.m p.ty p.sq p.st p.so (.slice A p.ot.length a) p.x p.pf (.slice B p.xt.length b) (.slice D p.pl.length d) p.pd ∧
 w.ownsRow base 33 1 (.slice A p.ot.length a) p.ot.length (ucells p.ot) ∧ w.ownsRow base 5 1 (.slice B p.xt.length b) p.xt.length (cells p.xt) ∧ w.ownsRow base 5 1 (.slice D p.pl.length d) p.pl.length (cells p.pl)

def exBR (bs : List UInt8) : Bool := bt bs 0 / 16 % 2 == 1
def pdB (bs : List UInt8) : Bool := bt bs 0 / 32 % 2 == 1
def wordsN (bs : List UInt8) : Nat := numb ((bs.drop (at0 bs + 2)).take 2)
def at1 (bs : List UInt8) : Nat := if exBR bs then at0 bs + 4 + 4 * wordsN bs else at0 bs
def padN (bs : List UInt8) : Nat := if pdB bs then bt bs (bs.length - 1) else 0
def pktR (bs : List UInt8) : Pkt where
 m := bt bs 1 / 128 == 1
 ty := bt bs 1 % 128
 sq := sqN bs
 st := stN bs
 so := soN bs
 ot := srcs (bs.drop 12) (othN bs)
 x := exBR bs
 pf := if exBR bs then numb ((bs.drop (at0 bs)).take 2) else 0
 xt := if exBR bs then (bs.drop (at0 bs + 4)).take (4 * wordsN bs) else []
 pl := (bs.drop (at1 bs)).take (bs.length - at1 bs - padN bs)
 pd := padN bs
def whyR (bs : List UInt8) : Int :=
 if 1200 < bs.length then 3 else if bs.length < 12 then 2 else if bt bs 0 / 64 ≠ 2 then 3 else if bs.length < at0 bs then 2
 else if exBR bs = true ∧ bs.length < at0 bs + 4 then 2 else if exBR bs = true ∧ bs.length < at1 bs then 2 else if exBR bs = true ∧ 255 < wordsN bs then 3
 else if pdB bs = true ∧ (at1 bs = bs.length ∨ bt bs (bs.length - 1) = 0 ∨ bs.length - at1 bs < bt bs (bs.length - 1)) then 3 else 0
end Go.Proofs.YtmkeioeodlidgaaGreatDoor

namespace Go.Proofs.YtmkeioeodlidgaaGreatDoor
set_option linter.unusedVariables false

theorem beb_one (x : Nat) : beb 1 x = [UInt8.ofNat x] := by rw [beb_succ]; rfl
theorem numb_beb_of {n x : Nat} (h : x < 256 ^ n) : numb (beb n x) = x := by rw [numb_beb, Nat.mod_eq_of_lt h]

def padB (n : Nat) : List UInt8 := if n = 0 then [] else List.replicate (n - 1) 0 ++ [UInt8.ofNat n]
theorem padB_len (n : Nat) : (padB n).length = n := by
 unfold padB
 split
 · rename_i h; rw [h]; rfl
 · simp; omega
def firstN (p : Pkt) : Nat := 128 + (if 0 < p.pd then 32 else 0) + (if p.x then 16 else 0) + p.ot.length
def secondN (p : Pkt) : Nat := (if p.m then 128 else 0) + p.ty
def hdB (p : Pkt) : List UInt8 := [UInt8.ofNat (firstN p)] ++ ([UInt8.ofNat (secondN p)] ++ (beb 2 p.sq ++ (beb 4 p.st ++ beb 4 p.so)))
def otB (L : List Nat) : List UInt8 := L.flatMap (beb 4)
def exBt (p : Pkt) : List UInt8 := if p.x then beb 2 p.pf ++ (beb 2 (p.xt.length / 4) ++ p.xt) else []
def wrB (p : Pkt) : List UInt8 := hdB p ++ (otB p.ot ++ (exBt p ++ (p.pl ++ padB p.pd)))
theorem hdB_len (p : Pkt) : (hdB p).length = 12 := by simp [hdB, length_beb]
theorem otB_len (L : List Nat) : (otB L).length = 4 * L.length := by
 induction L with
 | nil => rfl
 | cons a r ih =>
   have : otB (a :: r) = beb 4 a ++ otB r := rfl
   rw [this, List.length_append, length_beb, ih, List.length_cons]
   omega
def hdN' (p : Pkt) : Nat := 12 + 4 * p.ot.length + (if p.x then 4 + p.xt.length else 0)
theorem exBt_len (p : Pkt) : (exBt p).length = if p.x then 4 + p.xt.length else 0 := by
 unfold exBt
 split
 · simp [length_beb]; omega
 · rfl
theorem wrB_len (p : Pkt) : (wrB p).length = hdN' p + p.pl.length + p.pd := by
 unfold wrB hdN'
 rw [List.length_append, List.length_append, List.length_append, List.length_append, hdB_len, otB_len, exBt_len, padB_len]
 omega

def mayB (p : Pkt) : Prop := p.ty ≤ 127 ∧ p.ot.length ≤ 15 ∧ (p.x = true ∨ (p.xt.length = 0 ∧ p.pf = 0)) ∧ p.xt.length % 4 = 0 ∧ p.xt.length ≤ 1020 ∧ hdN' p + p.pl.length + p.pd ≤ 1200
def fits (p : Pkt) : Prop := p.sq < 65536 ∧ p.st < 4294967296 ∧ p.so < 4294967296 ∧ (∀ x ∈ p.ot, x < 4294967296) ∧ p.pf < 65536 ∧ p.pd < 256

theorem srcs_otB (L : List Nat) (T : List UInt8) (h : ∀ x ∈ L, x < 4294967296) : srcs (otB L ++ T) L.length = L := by
 have key : ∀ (R : List Nat) (L : List Nat) (T : List UInt8), (∀ x ∈ L, x < 4294967296) → ∀ k, k < L.length → numb (((otB L ++ T).drop (4 * k)).take 4) = L.getD k 0 := by
  intro _ L
  induction L with
  | nil => intro T _ k hk; simp at hk
  | cons a r ih =>
    intro T h k hk
    have e : otB (a :: r) = beb 4 a ++ otB r := rfl
    rw [e, List.append_assoc]
    have hb : (beb 4 a).length = 4 := length_beb 4 a
    cases k with
    | zero =>
      rw [Nat.mul_zero, List.drop_zero, List.take_left' hb, numb_beb_of (by have := h a (by simp); omega)]
      rfl
    | succ k =>
      have e2 : ((beb 4 a ++ (otB r ++ T)).drop (4 * (k + 1))) = (otB r ++ T).drop (4 * k) := by
       rw [show 4 * (k + 1) = (beb 4 a).length + 4 * k by rw [hb]; omega, List.drop_append]
       simp
      rw [e2, ih T (fun x hx => h x (by simp [hx])) k (by simpa using hk)]
      rfl
 apply List.ext_getElem
 · simp [srcs]
 · intro k h1 h2
   simp only [srcs, List.getElem_map, List.getElem_range]
   rw [key [] L T h k h2]
   simp [List.getD, h2]
end Go.Proofs.YtmkeioeodlidgaaGreatDoor
