/- Several texts in one: plain words and walks. No statement is proved here. -/
import Derived.Test.YtheefckohnaceaaGreatDoorZM3
import Derived.Lib.AppendStr
import Derived.Lib.AppendZerosOnto
import Derived.Test.YtheefckohnaceaaGreatDoorZM0
import Derived.Test.YtheefckohnaceaaGreatDoorZM10
import Derived.Test.YtheefckohnaceaaGreatDoorZReg
import Derived.Test.YtheefckohnaceaaGreatDoorZM11
namespace Go.Proofs.YtheefckohnaceaaGreatDoor
open List renaming getElem_toArray → xgT, getElem_cons_succ → xgS, getElem_cons_zero → xgZ, setIfInBounds_toArray → xsT, set_cons_succ → xsS, set_cons_zero → xsZ
open Go.RowKit
set_option linter.unusedVariables false

theorem strCells_txt (t : List UInt8) : Lib.strCells (txt t) = cells t := by simp [Lib.strCells, txt, cells]
theorem size_txt (t : List UInt8) : (txt t).size = t.length := by simp [txt, ByteArray.size]
theorem wpList_app_str {w : World} {ops : Array Oper} {rest : List Oper} {o : Oper} {a : Act} {Q : Exit → Act → World → Prop} (hgd : o.guard = none) (s x : Operand)
 (ho : o.op = .call { callee := .builtin .append, args := #[s, x], argTypes := #[32, 9] }) (w0 : World) (A : Option Addr) (n c : Nat) (bs t : List UInt8) (hs : a.eval s = .slice A n c) (hown : BO w0 w A n c bs) (hx : a.eval x = .string (txt t)) (hn : n ≤ 1000000) (ht : t.length ≤ 1000000)
 (h : ∀ A' c' w', BO w0 w' A' (n + t.length) c' (bs ++ t) → w.grownBy w' (Value.slice A n c).ownBlock → wpList Tryz.prog ops Q rest (a.put o.dst (.slice A' (n + t.length) c')) w') : wpList Tryz.prog ops Q (o :: rest) a w := by
 obtain ⟨i, hi, hz, hsz, hby⟩ := info_parts u8_info
 have e := size_txt t
 refine Lib.wpList_append_own_string (P := Tryz.prog) w hgd s x 32 9 ho w0.heap.size 5 i Tryz.underlying32 Tryz.underlying9 hi hz hsz hby (.slice A n c) n (cells bs) hs hown.1 (txt t) hx (by simp only [maxLen]; omega) (by omega) hown.2.size (fun v' w' h1 h2 _ => ?_)
 rw [e, strCells_txt, ← cells_append] at h1
 obtain ⟨A', c', rfl⟩ := own_formN h1
 exact h A' c' w' (hown.more h1 h2) h2
theorem zero_cells (k : Nat) : Builtin.zeroCells #[Value.int .u8 0] k = (cells (List.replicate k 0)).toArray := by
 rw [cells_replicate]
 unfold Builtin.zeroCells
 apply Array.ext
 · simp
 · intro i h1 h2
   simp [Nat.mod_one]
theorem run_app_zeros (w : World) (base : Nat) (ty : TypeId) (v : Value) (n k : Nat) (bs : List UInt8) (hown : w.ownsRow base 5 1 v n (cells bs)) (hk : 1 ≤ k) (hn : n ≤ 1000000) (hk2 : k ≤ 1000000) (hbase : base ≤ w.heap.size) :
 ∃ v' w', (Builtin.append_ #[32, 3] ty #[v, .int .i64 (k : Int)]).run Tryz.prog w = .ok v' w' ∧ w'.ownsRow base 5 1 v' (n + k) (cells (bs ++ List.replicate k 0)) ∧ w.grownBy w' v.ownBlock := by
 obtain ⟨i, hi, hz, hsz, hby⟩ := info_parts u8_info
 have hl : (cells bs).length = n := by simpa using hown.1
 have hlen : (cells (bs ++ List.replicate k 0)).length = (n + k) * 1 := by rw [length_cells, List.length_append, List.length_replicate, ← length_cells bs, hl, Nat.mul_one]
 have hzc : (Value.int .u8 0).cells = #[.int .u8 0] := rfl
 have grown : ∀ (old : Nat) (row : Option Nat), old < n + k →
  (w.drew.alloc (.cells ((cells bs).toArray ++ Builtin.zeroCells (Value.int .u8 0).cells k ++ Builtin.zeroCells (Value.int .u8 0).cells (grownCap w (n + k) old 5 - (n + k))) 5)).ownsRow base 5 1
    (.slice (some ⟨w.heap.size, 0, none⟩) (n + k) (grownCap w (n + k) old 5)) (n + k) (cells (bs ++ List.replicate k 0)) ∧
  w.grownBy (w.drew.alloc (.cells ((cells bs).toArray ++ Builtin.zeroCells (Value.int .u8 0).cells k ++ Builtin.zeroCells (Value.int .u8 0).cells (grownCap w (n + k) old 5 - (n + k))) 5)) row := by
  intro old row ho
  have hge := grownCap_ge w (n + k) old 5
  have hcm : grownCap w (n + k) old 5 ≤ maxLen := grownCap_le_maxLen w (n + k) old 5 (by simp only [maxLen]; omega)
  refine ⟨⟨hlen, .inr ⟨w.heap.size, _, _, rfl, hbase, heap_alloc_new w.drew _, hge, hcm, ?_, ?_⟩⟩, ⟨rfl, rfl, rfl, by simp, fun q hq _ => heap_alloc_old w.drew _ hq⟩⟩
  · rw [hzc, zero_cells, zero_cells]
    simp only [Array.size_append, List.size_toArray, length_cells, List.length_replicate, hl, Nat.mul_one]
    rw [length_cells] at hl
    omega
  · rw [hzc, zero_cells, zero_cells]
    simp only [Array.toList_append, List.append_assoc]
    rw [← List.append_assoc, ← cells_append, ← hlen]
    exact List.take_left
 rcases hown.2 with ⟨rfl, rfl⟩ | ⟨g, cap, cur, rfl, hbg, hg, hnc, hcm, hcs, htake⟩
 · have hb : bs = [] := List.eq_nil_of_length_eq_zero (by rw [← length_cells, hl])
   subst hb
   have hr := Lib.run_append_grow_zeros (P := Tryz.prog) w 32 3 ty 5 i (.int .u8 0) .i64 .i64 Tryz.underlying32 Tryz.underlying3 hi hz none 0 0 (cells []) (by rw [hsz]; exact run_firstCells_none w.drew 1 0 0 0) k (by omega) (by omega) (by omega) (by omega) (by rw [hby]; omega) (growslice_fits (by omega) (by rw [hby]; omega))
   obtain ⟨g1, g2⟩ := grown 0 (Value.slice none 0 0).ownBlock (by omega)
   exact ⟨_, _, hr, g1, g2⟩
 · by_cases hroom : n + k ≤ cap
   · have hB : BlkV w g 5 cur.toList := by simpa [BlkV] using hg
     have hcl : cur.toList.length = cap := by rw [Array.length_toList, hcs]; omega
     have hz1 : ∀ v ∈ (List.replicate k (Value.int .u8 0)), v.oneCell' = true := by intro v hv; rw [(List.mem_replicate.1 hv).2]; rfl
     obtain ⟨s1, s2⟩ := set_cells g (List.replicate k (Value.int .u8 0)) n w cur.toList hB (by rw [List.length_replicate, hcl]; omega)
     have hst := run_storeCells_cells (P := Tryz.prog) g n (List.replicate k (Value.int .u8 0)) 0 w (fun j hj => by rw [List.length_replicate] at hj; rw [Nat.add_zero, hB.cell]; simp; omega) (fun j _ => hB.frozen _) hz1
     simp only [Nat.add_zero] at hst
     refine ⟨.slice (some ⟨g, 0, none⟩) (n + k) cap, w.setCells g n (List.replicate k (Value.int .u8 0)), ?_, ⟨hlen, .inr ⟨g, cap, _, rfl, hbg, s1, hroom, hcm, ?_, ?_⟩⟩, s2.grown⟩
     · have hw : IntKind.i64.wrap (k : Int) = (k : Int) := by rw [IntKind.wrap_i64]; omega
       have hb2 : ¬ ((281474976710656 : Int) < (k : Int)) := by omega
       have hk0 : ¬ k = 0 := by omega
       simp [Builtin.append_, run_underlying Tryz.underlying32, run_underlying Tryz.underlying3, sizeOf, typeInfo, zeroValue, hi, hz, hsz, hby, asInt, asIntOf, hw, hb2, hk0, hroom, Addr.add_lit, hzc, zero_cells, cells_replicate, hst]
       intro h; omega
     · simp [splice]; omega
     · rw [Nat.mul_one] at htake ⊢
       rw [cells_append, cells_replicate, ← htake]
       simp only [splice, List.length_replicate, UInt8.toNat_zero]
       rw [← List.append_assoc, List.take_left' (by simp only [List.length_append, List.length_take, List.length_replicate]; omega)]
       rfl
   · have holds : ∀ j u, (cells bs)[j]? = some u → w.cell? ((⟨g, 0, none⟩ : Addr).add j) = some u := hown.cells (g := g) rfl
     have hr := Lib.run_append_grow_zeros (P := Tryz.prog) w 32 3 ty 5 i (.int .u8 0) .i64 .i64 Tryz.underlying32 Tryz.underlying3 hi hz (some ⟨g, 0, none⟩) n cap (cells bs) (by rw [hsz]; exact run_firstCells_some w.drew 1 n ⟨g, 0, none⟩ n cap (cells bs) (by rw [hl, Nat.mul_one]) holds) k (by omega) (by omega) (by omega) (by omega) (by rw [hby]; omega) (growslice_fits (by omega) (by rw [hby]; omega))
     obtain ⟨g1, g2⟩ := grown cap (Value.slice (some ⟨g, 0, none⟩) n cap).ownBlock (by omega)
     exact ⟨_, _, hr, g1, g2⟩
theorem wpList_app_zeros {w : World} {ops : Array Oper} {rest : List Oper} {o : Oper} {a : Act} {Q : Exit → Act → World → Prop} (hgd : o.guard = none) (s x : Operand)
 (ho : o.op = .call { callee := .builtin .append, args := #[s, x], argTypes := #[32, 3] }) (w0 : World) (A : Option Addr) (n c k : Nat) (bs : List UInt8) (hs : a.eval s = .slice A n c) (hown : BO w0 w A n c bs) (hx : a.eval x = .int .i64 (k : Int)) (hk : 1 ≤ k) (hn : n ≤ 1000000) (hk2 : k ≤ 1000000)
 (h : ∀ A' c' w', BO w0 w' A' (n + k) c' (bs ++ List.replicate k 0) → w.grownBy w' (Value.slice A n c).ownBlock → wpList Tryz.prog ops Q rest (a.put o.dst (.slice A' (n + k) c')) w') : wpList Tryz.prog ops Q (o :: rest) a w := by
 refine wpList_plain hgd fun K hK => ?_
 obtain ⟨v', w', hr, h1, h2⟩ := run_app_zeros w w0.heap.size o.type (.slice A n c) n k bs hown.1 hk hn hk2 hown.2.size
 obtain ⟨A', c', rfl⟩ := own_formN h1
 unfold Oper.wp execOp
 simp only [ho, resolve, invoke, builtin, Sem.run_bind, Sem.run_pure, Result.andThen_ok, List.map_toArray, List.map_cons, List.map_nil, hs, hx, hr]
 exact hK _ _ (h A' c' w' (hown.more h1 h2) h2)
theorem own_cut0 {w : World} {base n c : Nat} {e : TypeId} {A : Option Addr} {xs : List Value} (h : w.ownsRow base e 1 (.slice A n c) n xs) : w.ownsRow base e 1 (.slice A 0 c) 0 [] := by
 refine ⟨by simp, ?_⟩
 rcases h.2 with ⟨hv, _⟩ | ⟨g, cap, cur, hv, hb, hg, hnc, hcm, hcs, _⟩
 · injection hv with h1 h2 h3
   subst h1; subst h3
   exact .inl ⟨rfl, rfl⟩
 · injection hv with h1 h2 h3
   subst h1; subst h3
   exact .inr ⟨g, _, cur, rfl, hb, hg, Nat.zero_le _, hcm, hcs, by simp⟩
theorem own_cap {w : World} {base n c : Nat} {e : TypeId} {A : Option Addr} {xs : List Value} (h : w.ownsRow base e 1 (.slice A n c) n xs) : n ≤ c ∧ c ≤ maxLen := by
 rcases h.2 with ⟨hv, h0⟩ | ⟨g, cap, cur, hv, hb, hg, hnc, hcm, _⟩
 · injection hv with h1 h2 h3
   subst h3; subst h0; exact ⟨Nat.le_refl _, by simp⟩
 · injection hv with h1 h2 h3
   subst h3; exact ⟨hnc, hcm⟩

set_option maxRecDepth 100000 in
set_option maxHeartbeats 400000 in
theorem grow_nil (n : Nat) (w : World) (hn : n ≤ 1000000) :
 Calls Tryz.prog 43 #[.slice none 0 0, .int .i64 (n : Int)] w fun e w' => ∃ A c, e = .returned (.slice A 0 c) ∧ BO w w' A 0 c [] := by
 by_cases h0 : 0 < n
 · go_enter Tryz.func43, Tryz.ntmps43
   go_wp2_with (at_builtin; refine wpList_app_zeros rfl (.tmp 20) (.tmp 21) rfl w none 0 0 n [] rfl (BO.nil w) rfl h0 (by omega) hn ?_; intro A1 c1 w1 hb1 hx1; have B1 := Lib.hid hb1; have hcap := (own_cap hb1.1).2; simp only [maxLen] at hcap; clear hb1 hx1)
   go_ret
   exact ⟨A1, c1, rfl, own_cut0 B1.out.1, B1.out.2⟩
 · have e0 : n = 0 := by omega
   subst e0
   go_enter Tryz.func43, Tryz.ntmps43
   go_wp2
   go_ret
   exact ⟨none, 0, rfl, BO.nil w⟩

theorem flat_take {ps : List (List UInt8)} {j : Nat} (h : j < ps.length) : (ps.take (j + 1)).flatten = (ps.take j).flatten ++ ps.getD j [] := by
 rw [List.take_add_one, List.getElem?_eq_getElem h, List.flatten_append]
 simp [List.getD, h]
theorem flat_take_le (ps : List (List UInt8)) (j : Nat) : (ps.take j).flatten.length ≤ ps.flatten.length := by
 conv => rhs; rw [← List.take_append_drop j ps]
 rw [List.flatten_append, List.length_append]; omega

set_option maxRecDepth 100000 in
set_option maxHeartbeats 1000000 in
theorem concat_any (A : Option Addr) (k c : Nat) (ps : List (List UInt8)) (w : World) (hp : PartsRd w A k ps) (hk : k ≤ 1000) (hle : ps.flatten.length ≤ 100000) :
 Calls Tryz.prog 24 #[.slice A k c] w fun e w' => ∃ A' c', e = .returned (.slice A' ps.flatten.length c') ∧ BO w w' A' ps.flatten.length c' ps.flatten := by
 have HP := Lib.hid hp
 have HK := Lib.hid hp.1
 have HLE := Lib.hid (fun j => Nat.le_trans (flat_take_le ps j) hle)
 clear hp
 go_enter Tryz.func24, Tryz.ntmps24
 go_wp2
 go_loopw [3, 11] (fun vs vi wx => ∃ j S : Nat, j ≤ k ∧ S ≤ 100000 ∧ vs = .int .i64 (S : Int) ∧ vi = .int .i64 (j : Int) ∧ Hid (S = (ps.take j).flatten.length) ∧ wx = w) (fun _ vi _ => k - (intOf vi).toNat)
 case atStart => exact ⟨0, 0, by omega, by omega, rfl, rfl, Lib.hid (by simp), rfl⟩
 case round =>
  obtain ⟨j, S, hj, hS, rfl, rfl, HS, rfl⟩ := hrel
  by_cases hjk : j < k
  · obtain ⟨b, off, rfl, hlt, hc⟩ := HP.out.2 (by omega)
    obtain ⟨Aj, nj, cj, q1, q2⟩ := hc j hjk
    have hS2 : Hid (S + nj = (ps.take (j + 1)).flatten.length) := Lib.hid (by
     rw [flat_take (by rw [HK.out]; exact hjk), List.length_append, ← HS.out, q2.len])
    have hS3 : S + nj ≤ 100000 := by rw [hS2.out]; exact HLE.out _
    clear hc q2
    go_wp2
    go_roundw
    case rel => exact ⟨j + 1, S + nj, by omega, hS3, by go_num, by go_num, hS2, by trivial⟩
    case measure => simp [intOf]; omega
  · obtain rfl : j = k := by omega
    have HS2 : Hid (S = ps.flatten.length) := Lib.hid (by rw [HS.out, ← HK.out, List.take_length])
    go_wp2_with (go_at_call 43; ((with_reducible refine (grow_nil S _ (by omega)).mono ?_); rintro e w1 ⟨A1, c1, rfl, hb1⟩; have B1 := Lib.hid hb1; clear hb1))
    go_loopw [6, 27] (fun v vi wx => ∃ (i M : Nat) (A' : Option Addr) (c' : Nat), i ≤ j ∧ M ≤ 100000 ∧ v = .slice A' M c' ∧ vi = .int .i64 (i : Int) ∧ Hid (BO wr wx A' M c' ((ps.take i).flatten))) (fun _ vi _ => j - (intOf vi).toNat)
    case atStart => exact ⟨0, 0, A1, c1, by omega, by omega, rfl, rfl, Lib.hid (by simpa using B1.out)⟩
    case round =>
     obtain ⟨i, M, A2, c2, hi, hM, rfl, rfl, HL⟩ := hrel
     by_cases hij : i < j
     · obtain ⟨b, off, rfl, hlt, hc⟩ := (HP.out.below HL.out.2).2 (by omega)
       obtain ⟨Aj, nj, cj, q1, q2⟩ := hc i hij
       have HV := Lib.hid (flat_take (ps := ps) (j := i) (by rw [HK.out]; exact hij))
       have Q2 := Lib.hid q2
       have hM2 : M + nj ≤ 100000 := by
        have h1 := HLE.out (i + 1)
        rw [HV.out, List.length_append, HL.out.len, q2.len] at h1
        exact h1
       clear hc q2
       go_wp2_with (at_builtin; refine wpList_append_rd _ rfl (.tmp 31) (.tmp 32) rfl Tryz.underlying32 u8_info _ (.slice A2 M c2) M ((ps.take i).flatten) rfl HL.out.1 Aj nj cj (ps.getD i []) rfl Q2.out (by omega) HL.out.2.size ?_; intro v3 w3 hown3 hg3 _; obtain ⟨A3, c3, hv3⟩ := own_formN hown3; subst hv3; have B3 := Lib.hid (HL.out.more hown3 hg3); clear hown3 hg3)
       go_roundw
       case rel => exact ⟨i + 1, M + nj, A3, c3, by omega, hM2, rfl, by go_num, Lib.hid (by rw [HV.out]; exact B3.out)⟩
       case measure => simp [intOf]; omega
     · obtain rfl : i = j := by omega
       rw [show ps.take i = ps by rw [← HK.out, List.take_length]] at HL
       have hm : M = ps.flatten.length := HL.out.len.symm
       subst hm
       go_wp2
       go_ret
       exact ⟨A2, c2, rfl, HL.out⟩
theorem parts2 (w : World) (A1 A2 : Option Addr) (n1 n2 c1 c2 : Nat) (p1 p2 : List UInt8) (e : TypeId) (h1 : RdS w A1 n1 c1 p1) (h2 : RdS w A2 n2 c2 p2) :
 PartsRd (w.alloc (.cells #[.slice A1 n1 c1, .slice A2 n2 c2] e)) (some ⟨w.heap.size, 0, none⟩) 2 [p1, p2] := by
 have hB : BlkV (w.alloc (.cells #[.slice A1 n1 c1, .slice A2 n2 c2] e)) w.heap.size e [.slice A1 n1 c1, .slice A2 n2 c2] := BlkV.new _ _ _
 have hb : Below w.heap.size w (w.alloc (.cells #[.slice A1 n1 c1, .slice A2 n2 c2] e)) := (Below.refl _ _).alloc (Nat.le_refl _) _
 refine ⟨rfl, fun _ => ⟨w.heap.size, 0, rfl, hB.lt, fun j hj => ?_⟩⟩
 match j, hj with
 | 0, _ => exact ⟨A1, n1, c1, (hB.cell 0).trans rfl, h1.below hb⟩
 | 1, _ => exact ⟨A2, n2, c2, (hB.cell 1).trans rfl, h2.below hb⟩
theorem concat2 (W : World) (A1 A2 : Option Addr) (n1 n2 c1 c2 M : Nat) (p1 p2 BB : List UInt8) (h1 : RdS W A1 n1 c1 p1) (h2 : RdS W A2 n2 c2 p2) (hB : BB = p1 ++ p2) (hM : M = BB.length) (hle : M ≤ 100000) :
 Calls Tryz.prog 24 #[.slice (some ⟨W.heap.size, 0, none⟩) 2 2] (W.alloc (.cells #[.slice A1 n1 c1, .slice A2 n2 c2] 32)) fun e w' => ∃ A' c', e = .returned (.slice A' M c') ∧ RdS w' A' M c' BB ∧ Below W.heap.size W w' := by
 have hf : [p1, p2].flatten = BB := by rw [hB]; simp
 have hfl : [p1, p2].flatten.length = M := by rw [hf, hM]
 refine (concat_any _ 2 2 [p1, p2] _ (parts2 W A1 A2 n1 n2 c1 c2 p1 p2 _ h1 h2) (by omega) (by omega)).mono ?_
 rintro e w' ⟨A', c', rfl, hb⟩
 rw [hfl, hf] at hb
 rw [hfl]
 exact ⟨A', c', rfl, hb.rd, ((Below.refl _ _).alloc (Nat.le_refl _) _).trans (hb.2.mono (by simp))⟩

structure KEnv (q r g : Nat) (M s : List UInt8) (fi : Int) (wr : World) : Prop where
 hq : Blk wr q 25 M
 hr : BlkV wr r 5 [.int .u8 fi]
 hg : Blk wr g 42 s
 nq : q ≠ g
 nr : r ≠ g

set_option maxRecDepth 100000 in
set_option maxHeartbeats 1000000 in
theorem fill_any (q r g o n c L : Nat) (key salt s : List UInt8) (fi li : Int) (w : World) (hk : key.length = 16) (hs : salt.length = 14) (he : IntKind.u8.wrap (fi + li) = (L : Int)) (hL : L < 256) (h : KEnv q r g (mst key salt) s fi w) (h1 : 1 ≤ n) (hn : n ≤ 50) (hsl : o + n ≤ s.length) :
 Calls Tryz.prog 46 #[.slice (some ⟨g, o, none⟩) n c, .int .u8 li, .pointer (some ⟨q, 0, none⟩), .pointer (some ⟨r, 0, none⟩)] w fun e w' => e = .returned (.tuple #[]) ∧ KEnv q r g (mst key salt) (splice s o (drv key salt L n)) fi w' ∧ w.grownBy w' (some g) := by
 have hml := mst_len key salt hk hs
 have hdr := fun wx => derive_any key salt L (n : Int) n wx hk hs hL (by omega) (by omega)
 have hdl := drv_len key salt L n
 obtain ⟨D, hD⟩ : ∃ D, D = drv key salt L n := ⟨_, rfl⟩
 simp only [← hD] at hdr hdl ⊢
 have hcp : splice (cells s) o (cells (D.take n)) = cells (splice s o D) := by rw [List.take_of_length_le (by omega), cells_splice]
 obtain ⟨M, hM⟩ : ∃ M, M = mst key salt := ⟨_, rfl⟩
 simp only [← hM] at hdr h hml ⊢
 have hq := h.hq
 have hr := h.hr
 have hg := h.hg
 have nq := h.nq
 have nr := h.nr
 have hrc : w.cell? ⟨r, 0, none⟩ = some (.int .u8 fi) := (hr.cell 0).trans rfl
 have hML : (cells M).length = 30 := by rw [length_cells, hml]
 have hln : o + n ≤ (cells s).length := by rw [length_cells]; exact hsl
 have HML := Lib.hid hML
 have HDR := Lib.hid hdr
 have HCP := Lib.hid hcp
 have HLN := Lib.hid hln
 have hmin : n = min n n := by omega
 have HMIN := Lib.hid hmin
 clear hml hdr hdl hD hcp hM h hsl hML hln hk hs hmin
 go_enter Tryz.func46, Tryz.ntmps46
 go_wp2_with (first
  | (with_reducible refine wpList_ld rfl 25 (.tmp 2) rfl q 0 rfl (cells M) (hq.v.range 0 _ (by simp)) (row30 HML.out) ?_)
  | (go_at_call 47; ((with_reducible refine (HDR.out _).mono ?_); rintro e w2 ⟨A2, c2, rfl, hr2, hb2⟩; have q2 := hq.below hb2 hq.lt; have r2 := hr.below hb2 hr.lt; have g2 := hg.below hb2 hg.lt; have gr2 := grown_of_below hb2 (some g)))
  | ((with_reducible refine wpList_cp rfl (.tmp 6) (.tmp 13) rfl Tryz.underlying32 u8_inf g o n c 42 (cells s) rfl g2.v A2 n c2 D rfl hr2 HLN.out n HMIN.out (by omega) ?_); intro w3 hB3 ho3; rw [HCP.out] at hB3))
 go_end0
 exact ⟨rfl, ⟨Blk.only q2 ho3 nq, r2.only ho3 nr, hB3, nq, nr⟩, grown_only gr2 ho3 (.inl rfl)⟩

theorem way_boxes (w : World) (M : List UInt8) (fi : Int) : Below w.heap.size w ((((w.alloc (Obj.cells (cells M).toArray 25)).alloc (Obj.cells #[.int .u8 fi] 5)).alloc (Obj.cells (cells Z50).toArray 42)).alloc (Obj.cells (cells Z50).toArray 42)) ∧
 KEnv w.heap.size (w.heap.size + 1) (w.heap.size + 1 + 1 + 1) M Z50 fi ((((w.alloc (Obj.cells (cells M).toArray 25)).alloc (Obj.cells #[.int .u8 fi] 5)).alloc (Obj.cells (cells Z50).toArray 42)).alloc (Obj.cells (cells Z50).toArray 42)) ∧
 Blk ((((w.alloc (Obj.cells (cells M).toArray 25)).alloc (Obj.cells #[.int .u8 fi] 5)).alloc (Obj.cells (cells Z50).toArray 42)).alloc (Obj.cells (cells Z50).toArray 42)) (w.heap.size + 1 + 1) 42 Z50 :=
 ⟨((((Below.refl _ _).alloc (Nat.le_refl _) _).alloc (by simp) _).alloc (by simp; omega) _).alloc (by simp; omega) _,
  ⟨(((Blk.new _ _ _).alloc _).alloc _).alloc _, ((BlkV.new_at _ _ _ [.int .u8 fi] _ (by simp) rfl).alloc _).alloc _, Blk.new_at _ _ _ _ _ (by simp) rfl, by omega, by omega⟩,
  (Blk.new_at _ _ _ _ _ (by simp) rfl).alloc _⟩

set_option maxRecDepth 100000 in
set_option maxHeartbeats 1000000 in
theorem way_any (key salt : List UInt8) (f : Nat) (fi : Int) (w : World) (hk : key.length = 16) (hs : salt.length = 14) (hf : f < 250) (hfi : fi = (f : Int)) :
 Calls Tryz.prog 28 #[.agg (cells (mst key salt)).toArray, .int .u8 fi] w fun e w' => e = .returned (.agg (cells (kys key salt f)).toArray) ∧ Below w.heap.size w w' := by
 have hmf : ∀ (fn : Fn) (first cap : Array Value) (w : World), (Instr.makeFunc fn first cap).run Tryz.prog w = .ok (.func fn first cap) w := fun _ _ _ _ => rfl
 have hz := zero50
 obtain ⟨hb0, hE, hR⟩ := way_boxes w (mst key salt) fi
 have w0 : IntKind.u8.wrap (fi + 0) = (f : Int) := by rw [IntKind.wrap_u8]; omega
 have w1 : IntKind.u8.wrap (fi + 1) = ((f + 1 : Nat) : Int) := by rw [IntKind.wrap_u8]; omega
 have w2 : IntKind.u8.wrap (fi + 2) = ((f + 2 : Nat) : Int) := by rw [IntKind.wrap_u8]; omega
 have l0 := drv_len key salt f 16
 have l1 := drv_len key salt (f + 1) 20
 have l2 := drv_len key salt (f + 2) 14
 have hkl := kys_len key salt f
 obtain ⟨K, hK⟩ : ∃ K, K = kys key salt f := ⟨_, rfl⟩
 rw [← hK] at hkl ⊢
 obtain ⟨S1, hS1⟩ : ∃ S1, S1 = splice Z50 0 (drv key salt f 16) := ⟨_, rfl⟩
 obtain ⟨S2, hS2⟩ : ∃ S2, S2 = splice S1 16 (drv key salt (f + 1) 20) := ⟨_, rfl⟩
 have n1 : S1.length = 50 := by rw [hS1, splice_len _ _ _ (by rw [l0, Z50_len]; omega), Z50_len]
 have n2 : S2.length = 50 := by rw [hS2, splice_len _ _ _ (by rw [l1, n1]; omega), n1]
 have hS3 : splice S2 36 (drv key salt (f + 2) 14) = K := by rw [hS2, hS1, hK, trio3 _ _ _ l0 l1 l2]; rfl
 have f0 := fun q r g c wx (h : KEnv q r g (mst key salt) Z50 fi wx) => fill_any q r g 0 16 c f key salt Z50 fi 0 wx hk hs w0 (by omega) h (by omega) (by omega) (by rw [Z50_len]; omega)
 have f1 := fun q r g c wx (h : KEnv q r g (mst key salt) S1 fi wx) => fill_any q r g 16 20 c (f + 1) key salt S1 fi 1 wx hk hs w1 (by omega) h (by omega) (by omega) (by omega)
 have f2 := fun q r g c wx (h : KEnv q r g (mst key salt) S2 fi wx) => fill_any q r g 36 14 c (f + 2) key salt S2 fi 2 wx hk hs w2 (by omega) h (by omega) (by omega) (by omega)
 simp only [← hS1] at f0
 simp only [← hS2] at f1
 simp only [hS3] at f2
 obtain ⟨M, hM⟩ : ∃ M, M = mst key salt := ⟨_, rfl⟩
 simp only [← hM] at f0 f1 f2 hE ⊢
 rw [← hM] at hb0 hR
 have hKL : (cells K).length = 50 := by rw [length_cells, hkl]
 have hZL : (cells Z50).length = 50 := by rw [length_cells, Z50_len]
 have HKL := Lib.hid hKL
 have HZL := Lib.hid hZL
 have F0 := Lib.hid f0
 have F1 := Lib.hid f1
 have F2 := Lib.hid f2
 clear w0 w1 w2 l0 l1 l2 hkl hK hS1 hS2 n1 n2 hS3 f0 f1 f2 hM hKL hZL hk hs hf hfi
 go_enter Tryz.func28, Tryz.ntmps28
 go_wp2_with (first
  | (go_at_call 46; ((with_reducible refine (F0.out _ _ _ _ _ hE).mono ?_); rintro e x1 ⟨rfl, hE1, hg1⟩))
  | (go_at_call 46; ((with_reducible refine (F1.out _ _ _ _ _ hE1).mono ?_); rintro e x2 ⟨rfl, hE2, hg2⟩))
  | (go_at_call 46; ((with_reducible refine (F2.out _ _ _ _ _ hE2).mono ?_); rintro e x3 ⟨rfl, hE3, hg3⟩; have hK3 := hE3.hg; have hR3 := ((hR.grown hg1 (by intro e; injection e with e; omega)).grown hg2 (by intro e; injection e with e; omega)).grown hg3 (by intro e; injection e with e; omega)))
  | (with_reducible refine wpList_ld rfl 42 (.tmp 6) rfl (w.heap.size + 1 + 1 + 1) 0 rfl (cells K) (hK3.v.range 0 _ (by simp)) (row50 HKL.out) ?_)
  | ((with_reducible refine wpList_st rfl 42 (.tmp 4) (.tmp 20) rfl (w.heap.size + 1 + 1) 0 (cells K) rfl rfl 42 _ hR3.v (by rw [HKL.out, HZL.out]; omega) (row50 HKL.out) (cells_one _) ?_); intro x4 hB4 ho4; rw [splice_all _ _ (by rw [HKL.out, HZL.out])] at hB4))
 have hg := (hg1.trans hg2).trans hg3
 have hb := hb0.trans (below_of_grown hg hb0.size (fun k hk => by injection hk with hk; omega))
 exact ret_row (by rfl) (by rfl) hB4 (row50 HKL.out) (by rfl) ⟨rfl, hb.trans (ho4.below (by omega))⟩

set_option maxRecDepth 100000 in
set_option maxHeartbeats 1000000 in
theorem rtcp_any (key salt : List UInt8) (w : World) (hk : key.length = 16) (hs : salt.length = 14) :
 Calls Tryz.prog 15 #[.agg (cells (mst key salt)).toArray] w fun e w' => e = .returned (.agg (cells (kys key salt 3)).toArray) ∧ Below w.heap.size w w' := by
 have hz := zero50
 have hb0 : Below w.heap.size w ((w.alloc (Obj.cells (cells (mst key salt)).toArray 25)).alloc (Obj.cells (cells Z50).toArray 42)) := ((Below.refl _ _).alloc (Nat.le_refl _) _).alloc (by simp) _
 have h0 : Blk ((w.alloc (Obj.cells (cells (mst key salt)).toArray 25)).alloc (Obj.cells (cells Z50).toArray 42)) w.heap.size 25 (mst key salt) := (Blk.new _ _ _).alloc _
 have h1 : Blk ((w.alloc (Obj.cells (cells (mst key salt)).toArray 25)).alloc (Obj.cells (cells Z50).toArray 42)) (w.heap.size + 1) 42 Z50 := Blk.new_at _ _ _ _ _ (by simp) rfl
 have hML : (cells (mst key salt)).length = 30 := by rw [length_cells, mst_len _ _ hk hs]
 have hKL : (cells (kys key salt 3)).length = 50 := by rw [length_cells, kys_len]
 have hZL : (cells Z50).length = 50 := by rw [length_cells, Z50_len]
 have hwy := fun wx => way_any key salt 3 3 wx hk hs (by omega) rfl
 obtain ⟨M, hM⟩ : ∃ M, M = mst key salt := ⟨_, rfl⟩
 obtain ⟨K, hK⟩ : ∃ K, K = kys key salt 3 := ⟨_, rfl⟩
 simp only [← hM, ← hK] at hwy ⊢
 rw [← hM] at hb0 h0 h1 hML
 rw [← hK] at hKL
 have HML := Lib.hid hML
 have HKL := Lib.hid hKL
 have HZL := Lib.hid hZL
 have HW := Lib.hid hwy
 clear hML hKL hZL hwy hM hK hk hs
 go_enter Tryz.func15, Tryz.ntmps15
 go_wp2_with (first
  | (with_reducible refine wpList_ld rfl 25 (.tmp 1) rfl w.heap.size 0 rfl (cells M) (h0.v.range 0 _ (by simp)) (row30 HML.out) ?_)
  | (go_at_call 28; ((with_reducible refine (HW.out _).mono ?_); rintro e w2 ⟨rfl, hb2⟩; have k1 := h1.below hb2 h1.lt))
  | ((with_reducible refine wpList_st rfl 42 (.tmp 2) (.tmp 4) rfl (w.heap.size + 1) 0 (cells K) rfl rfl 42 _ k1.v (by rw [HKL.out, HZL.out]; omega) (row50 HKL.out) (cells_one _) ?_); intro w3 hB3 ho3; rw [splice_all _ _ (by rw [HKL.out, HZL.out])] at hB3))
 exact ret_row (by rfl) (by rfl) hB3 (row50 HKL.out) (by rfl) ⟨rfl, (hb0.trans (hb2.mono hb0.size)).trans (ho3.below (by omega))⟩
theorem mst_get (key salt : List UInt8) (i : Nat) (hk : key.length = 16) : (mst key salt).getD (16 + i) 0 = salt.getD i 0 := by
 rw [mst, getD_app_right _ _ _ (by omega), hk, show 16 + i - 16 = i by omega]
structure DEnv (w : World) (M C : List UInt8) (wr : World) : Prop where
 m : Blk wr w.heap.size 25 M
 c : Blk wr (w.heap.size + 1) 22 C
 b : Below w.heap.size w wr
theorem DEnv.below {w : World} {M C : List UInt8} {wr w' : World} (h : DEnv w M C wr) (hb : Below wr.heap.size wr w') : DEnv w M C w' := ⟨h.m.below hb h.m.lt, h.c.below hb h.c.lt, h.b.trans (hb.mono h.b.size)⟩

set_option maxRecDepth 100000 in
set_option maxHeartbeats 2000000 in
theorem rderive_any (key salt : List UInt8) (l : Nat) (n : Int) (N : Nat) (w : World) (hk : key.length = 16) (hs : salt.length = 14) (hl : l < 256) (hn : n ≤ 4096) (hN : N = n.toNat) :
 Calls Tryz.prog 44 #[.agg (cells (mst key salt)).toArray, .int .u8 (l : Int), .int .i64 n] w fun e w' => ∃ v, e = .returned v ∧ w'.ownsRow w.heap.size 5 1 v N (cells (drv key salt l N)) ∧ Below w.heap.size w w' := by
 have hz := zero16
 obtain ⟨hb0, h0, h1⟩ := key_boxes w (mst key salt)
 have hmk := mst_key key salt hk
 have hml := mst_len key salt hk hs
 have hmg : ∀ i, (mst key salt).getD (16 + i) 0 = salt.getD i 0 := fun i => mst_get key salt i hk
 have hll : (UInt8.ofNat l).toNat = l := by rw [UInt8.toNat_ofNat']; omega
 have hxr := xr8 ((saltZ salt).getD 7 0) (UInt8.ofNat l)
 rw [hll] at hxr
 have hlc : (saltZ salt).set 7 ((saltZ salt).getD 7 0 ^^^ UInt8.ofNat l) = labC salt l := rfl
 have hlcl := labC_len salt l hs
 have hrc := fun wx A c' (h : RdS wx A N c' (List.replicate N 0)) => rcipher_any key (labC salt l) A N c' (List.replicate N 0) wx hk hlcl h (by omega)
 simp only [cph_zeros] at hrc
 have hsf := salt_fill salt hs
 have hsz : (saltZ salt).length = 16 := saltZ_len _ hs
 obtain ⟨D, hD⟩ : ∃ D, D = drv key salt l N := ⟨_, rfl⟩
 have hDl : D.length = N := by rw [hD, drv_len]
 have hD2 : strm key (labC salt l) N = D := by rw [hD]; rfl
 simp only [hD2] at hrc
 rw [← hD]
 obtain ⟨C, hC⟩ : ∃ C, C = labC salt l := ⟨_, rfl⟩
 simp only [← hC] at hrc hlc hlcl
 obtain ⟨SZ, hSZ⟩ : ∃ SZ, SZ = saltZ salt := ⟨_, rfl⟩
 rw [← hSZ] at hsf hsz hlc hxr
 obtain ⟨V, hV⟩ : ∃ V, V = SZ.getD 7 0 ^^^ UInt8.ofNat l := ⟨_, rfl⟩
 rw [← hV] at hlc hxr
 obtain ⟨v, hv⟩ : ∃ v : Int, v = (V.toNat : Int) := ⟨_, rfl⟩
 obtain ⟨y, hy⟩ : ∃ y : Int, y = ((SZ.getD 7 0).toNat : Int) := ⟨_, rfl⟩
 rw [← hv, ← hy] at hxr
 obtain ⟨M, hM⟩ : ∃ M, M = mst key salt := ⟨_, rfl⟩
 simp only [← hM] at h0 h1 hb0 hmk hml hmg ⊢
 obtain ⟨f0, hf0⟩ : ∃ f : Nat → UInt8, f = fun i => salt.getD i 0 := ⟨_, rfl⟩
 rw [← hf0] at hsf
 have hx0 : ∀ i, M.getD (16 + i) 0 = f0 i := fun i => by rw [hmg, hf0]
 have hZL : (cells Z16).length = 16 := by rw [length_cells, Z16_len]
 have hKL : (cells key).length = 16 := by rw [length_cells, hk]
 have hCL : (cells C).length = 16 := by rw [length_cells, hlcl]
 have HZL := Lib.hid hZL
 have HKL := Lib.hid hKL
 have HCL := Lib.hid hCL
 have HMK := Lib.hid hmk
 have HML := Lib.hid hml
 have HRC := Lib.hid hrc
 have HLC := Lib.hid hlc
 have HSZ := Lib.hid hsz
 have HSF := Lib.hid hsf
 have HX0 := Lib.hid hx0
 have HV := Lib.hid hv
 have HY := Lib.hid hy
 have HN := Lib.hid hN
 have HNn := Lib.hid hn
 have HDL := Lib.hid hDl
 clear hmk hml hmg hll hlc hlcl hrc hsf hsz hD hDl hD2 hC hSZ hV hv hy hM hf0 hx0 hZL hKL hCL hs hk hl hN hn
 have hE0 : DEnv w M (fillAt f0 Z16 0) ((w.alloc (Obj.cells (cells M).toArray 25)).alloc (Obj.cells (cells Z16).toArray 22)) := ⟨h0, by rw [fillAt_zero]; exact h1, hb0⟩
 clear h0 h1 hb0
 go_enter Tryz.func44, Tryz.ntmps44
 go_wp2
 go_loopw [8] (fun vi wr => ∃ i : Nat, i ≤ 14 ∧ vi = .int .i64 i ∧ DEnv w M (fillAt f0 Z16 i) wr) (fun i _ => 14 - (intOf i).toNat)
 case atStart => exact ⟨0, by omega, rfl, hE0⟩
 case round =>
  clear hE0
  obtain ⟨i, hi, rfl, hE⟩ := hrel
  by_cases hlt : i < 14
  · have hcs := hE.m.cell (j := 16 + i) (by rw [HML.out]; omega)
    rw [HX0.out i] at hcs
    have hcell := hE.c.cell (j := i) (by rw [fillAt_len _ _ _ (by rw [Z16_len]; omega), Z16_len]; omega)
    have hfr := hE.c.frozen i
    have hst := hE.c.set_ i (f0 i)
    rw [fillAt_step _ _ _ (by rw [Z16_len]; omega)] at hst
    have ho := Only.set wr (w.heap.size + 1) i (.int .u8 ((f0 i).toNat : Int))
    have hE2 : DEnv w M (fillAt f0 Z16 (i + 1)) (wr.setCell ⟨w.heap.size + 1, i, none⟩ (.int .u8 ((f0 i).toNat : Int))) := ⟨Blk.only hE.m ho (by omega), hst, hE.b.trans (ho.below (by omega))⟩
    obtain ⟨a, ha⟩ : ∃ a : Int, a = ((f0 i).toNat : Int) := ⟨_, rfl⟩
    obtain ⟨y2, hy2⟩ : ∃ y : Int, y = (((fillAt f0 Z16 i).getD i 0).toNat : Int) := ⟨_, rfl⟩
    rw [← ha] at hcs hE2
    rw [← hy2] at hcell
    clear ha hy2 hst ho hE
    go_wp2
    go_roundw
    case rel => exact ⟨i + 1, by omega, by go_num, hE2⟩
    case measure => simp [intOf]; omega
  · obtain rfl : i = 14 := by omega
    rw [HSF.out] at hE
    have hcell := hE.c.cell (j := 7) (by rw [HSZ.out]; omega)
    rw [← HY.out] at hcell
    have hfr := hE.c.frozen 7
    have hst := hE.c.set_ 7 V
    rw [HLC.out] at hst
    have ho := Only.set wr (w.heap.size + 1) 7 (.int .u8 (V.toNat : Int))
    have hE2 : DEnv w M C (wr.setCell ⟨w.heap.size + 1, 7, none⟩ (.int .u8 (V.toNat : Int))) := ⟨Blk.only hE.m ho (by omega), hst, hE.b.trans (ho.below (by omega))⟩
    rw [← HV.out] at hE2
    clear hst ho hE
    by_cases hn1 : n < 1
    · have hN0 : N = 0 := by have := HN.out; omega
      have hD0 : D = [] := List.eq_nil_of_length_eq_zero (by rw [HDL.out, hN0])
      subst hN0
      subst hD0
      go_wp2
      go_ret
      exact ⟨_, rfl, World.ownsRow_nil _ _ _ _, hE2.b⟩
    · obtain rfl : n = (N : Int) := by have := HN.out; omega
      have hmk := run_makeB (P := Tryz.prog) Tryz.underlying32 u8_inf .i64 .i64 (N : Int) (N : Int) N rfl rfl (by have := HNn.out; omega)
      have hzr : ∀ wx : World, RdS (wx.alloc (.cells (cells (List.replicate N 0)).toArray 5)) (some ⟨wx.heap.size, 0, none⟩) N N (List.replicate N 0) := fun wx => (Blk.new wx _ _).rd (by simp) (Nat.le_refl _) (by simp only [maxLen]; have := HNn.out; omega)
      have HZR := Lib.hid hzr
      have hs2 := hE2.b.size
      clear hzr
      go_wp2
      refine wp_region_noPanic ?_
      refine wp_region_held (S := DEnv w M C) (by kernel_rfl) ?_
      change wpAnyH _ _ _ _ _ _ _ _ (World.drew _)
      have hS : DEnv w M C (wr.setCell ⟨w.heap.size + 1, 7, none⟩ (.int .u8 v)).drew := hE2.below ((Below.refl _ _).drew)
      clear hE2 hcell hfr hs2
      generalize (wr.setCell ⟨w.heap.size + 1, 7, none⟩ (.int .u8 v)).drew = w2 at *
      refine wpAnyH_take (i := 0) (v := ?_) rfl (by kernel_rfl) (by kernel_rfl) (by kernel_rfl) (fun _ _ _ h => h) (Or.inl ⟨by rfl, ?_⟩) hS ?_
      case refine_2 => (intro wz hz; go_simp; with_reducible rfl)
      simp only [Act.put, xgT, xgZ, xsT, xsS, xsZ]
      refine wpAnyH_take (i := 1) (v := .agg (cells key).toArray) rfl (by kernel_rfl) (by kernel_rfl) (by kernel_rfl) (fun _ _ _ h => h) (Or.inl ⟨by rfl, fun wz hz => ?_⟩) hS ?_
      · exact run_ld 22 _ rfl w.heap.size 0 (by rfl) (cells key) (hz.m.v.range 0 _ HMK.out) (row16 HKL.out)
      simp only [Act.put, xgT, xgS, xgZ, xsT, xsS, xsZ]
      refine wpAnyH_take (i := 2) (v := .agg (cells C).toArray) rfl (by kernel_rfl) (by kernel_rfl) (by kernel_rfl) (fun _ _ _ h => h) (Or.inl ⟨by rfl, fun wz hz => ?_⟩) hS ?_
      · exact run_ld 22 _ rfl (w.heap.size + 1) 0 (by rfl) (cells C) (hz.c.v.range 0 _ (by simp)) (row16 HCL.out)
      simp only [Act.put, xgT, xgS, xgZ, xsT, xsS, xsZ]
      refine wpAnyH_take (i := 3) (v := ?_) rfl (by kernel_rfl) (by kernel_rfl) (by kernel_rfl) (fun _ _ _ h => h) (Or.inl ⟨by rfl, ?_⟩) hS ?_
      case refine_2 => (intro wz hz; go_simp; with_reducible rfl)
      simp only [Act.put, xgT, xgS, xgZ, xsT, xsS, xsZ]
      refine anyH_one (i := 4) (by kernel_rfl) rfl rfl (fun H hH => ?_)
      simp only [xgT, xgS, xgZ]
      go_simp
      have hbq := (Below.refl w2.heap.size w2).alloc (Nat.le_refl _) (.cells (cells (List.replicate N 0)).toArray 5)
      have hS2 := hS.below hbq
      have hz3 := HZR.out w2
      refine hH _ _ hS2 ?_
      clear hH H hbq hS
      generalize w2.alloc (.cells (cells (List.replicate N 0)).toArray 5) = w3 at *
      refine anyH_one (i := 5) (by kernel_rfl) rfl rfl (fun H hH => ?_)
      simp only [xgT, xgS, xgZ]
      go_simp
      refine (HRC.out w3 _ _ hz3).mono ?_
      rintro e w4 ⟨v4, rfl, hown4, hb4⟩
      have hS4 := hS2.below hb4
      have hw3 := hS2.b.size
      refine hH _ _ hS4 ?_
      clear hH H hb4 hS2
      refine wpAnyH_take (i := 6) (v := ?_) rfl (by kernel_rfl) (by kernel_rfl) (by kernel_rfl) (fun _ _ _ h => h) (Or.inl ⟨by rfl, ?_⟩) hS4 ?_
      case refine_2 => (intro wz hz; go_simp; with_reducible rfl)
      simp only [Act.put, xgT, xgS, xgZ, xsT, xsS, xsZ]
      refine wpAnyH_done (by kernel_rfl) ?_ _
      refine NoPanic.normal ?_
      go_wp2
      go_ret
      exact ⟨v4, rfl, own_lower hown4 hw3, hS4.b⟩
structure XEnv (w : World) (M L : List UInt8) (wr : World) : Prop where
 m : Blk wr w.heap.size 25 M
 r : Blk wr (w.heap.size + 1) 42 Z50
 k : Blk wr (w.heap.size + 1 + 1) 42 L
 b : Below w.heap.size w wr
theorem XEnv.below {w : World} {M L : List UInt8} {wr w' : World} (h : XEnv w M L wr) (hb : Below wr.heap.size wr w') : XEnv w M L w' := ⟨h.m.below hb h.m.lt, h.r.below hb h.r.lt, h.k.below hb h.k.lt, h.b.trans (hb.mono h.b.size)⟩
theorem xenv_start (w : World) (M : List UInt8) : XEnv w M Z50 (((w.alloc (Obj.cells (cells M).toArray 25)).alloc (Obj.cells (cells Z50).toArray 42)).alloc (Obj.cells (cells Z50).toArray 42)) :=
 ⟨((Blk.new _ _ _).alloc _).alloc _, (Blk.new_at _ _ _ _ _ (by simp) rfl).alloc _, Blk.new_at _ _ _ _ _ (by simp) rfl, (((Below.refl _ _).alloc (Nat.le_refl _) _).alloc (by simp) _).alloc (by simp; omega) _⟩
structure TEnv (w : World) (G gA gB gC : Nat) (a b c L : List UInt8) (wr : World) : Prop where
 r : Blk wr (w.heap.size + 1) 42 Z50
 k : Blk wr G 42 L
 A : ∀ j, j < 16 → wr.cell? ⟨gA, j, none⟩ = some (.int .u8 ((a.getD j 0).toNat : Int))
 B : ∀ j, j < 20 → wr.cell? ⟨gB, j, none⟩ = some (.int .u8 ((b.getD j 0).toNat : Int))
 C : ∀ j, j < 14 → wr.cell? ⟨gC, j, none⟩ = some (.int .u8 ((c.getD j 0).toNat : Int))
 b : Below w.heap.size w wr
 nG : w.heap.size + 1 < G
 nA : G < gA
 nB : G < gB
 nC : G < gC
theorem TEnv.put {w : World} {G gA gB gC : Nat} {a b c L : List UInt8} {wr : World} (h : TEnv w G gA gB gC a b c L wr) (j : Nat) (v : UInt8) : TEnv w G gA gB gC a b c (L.set j v) (wr.setCell ⟨G, j, none⟩ (.int .u8 (v.toNat : Int))) := by
 have ho := Only.set wr G j (.int .u8 (v.toNat : Int))
 have h1 := h.nG; have h2 := h.nA; have h3 := h.nB; have h4 := h.nC
 exact ⟨Blk.only h.r ho (by omega), h.k.set_ j v, cells_only h.A ho (by omega), cells_only h.B ho (by omega), cells_only h.C ho (by omega), h.b.trans (ho.below (by omega)), h1, h2, h3, h4⟩

set_option maxRecDepth 100000 in
set_option maxHeartbeats 4000000 in
theorem rkeys_any (key salt : List UInt8) (f : Nat) (fi : Int) (w : World) (hk : key.length = 16) (hs : salt.length = 14) (hf : f < 250) (hfi : fi = (f : Int)) :
 Calls Tryz.prog 26 #[.agg (cells (mst key salt)).toArray, .int .u8 fi] w fun e w' => e = .returned (.agg (cells (kys key salt f)).toArray) ∧ Below w.heap.size w w' := by
 have hz := zero50
 have hE0 := xenv_start w (mst key salt)
 have hml := mst_len key salt hk hs
 have w1 : IntKind.u8.wrap (fi + 1) = ((f + 1 : Nat) : Int) := by rw [IntKind.wrap_u8]; omega
 have w2 : IntKind.u8.wrap (fi + 2) = ((f + 2 : Nat) : Int) := by rw [IntKind.wrap_u8]; omega
 have hda : ∀ wx : World, Calls Tryz.prog 44 #[.agg (cells (mst key salt)).toArray, .int .u8 fi, .int .i64 16] wx fun e w' => ∃ v, e = .returned v ∧ w'.ownsRow wx.heap.size 5 1 v 16 (cells (drv key salt f 16)) ∧ Below wx.heap.size wx w' := fun wx => by
  rw [hfi]; exact rderive_any key salt f 16 16 wx hk hs (by omega) (by omega) rfl
 have hdb : ∀ (wx : World) (L : Int), L = ((f + 1 : Nat) : Int) → Calls Tryz.prog 44 #[.agg (cells (mst key salt)).toArray, .int .u8 L, .int .i64 20] wx fun e w' => ∃ v, e = .returned v ∧ w'.ownsRow wx.heap.size 5 1 v 20 (cells (drv key salt (f + 1) 20)) ∧ Below wx.heap.size wx w' := fun wx L hL => by
  rw [hL]; exact rderive_any key salt (f + 1) 20 20 wx hk hs (by omega) (by omega) rfl
 have hdc : ∀ (wx : World) (L : Int), L = ((f + 2 : Nat) : Int) → Calls Tryz.prog 44 #[.agg (cells (mst key salt)).toArray, .int .u8 L, .int .i64 14] wx fun e w' => ∃ v, e = .returned v ∧ w'.ownsRow wx.heap.size 5 1 v 14 (cells (drv key salt (f + 2) 14)) ∧ Below wx.heap.size wx w' := fun wx L hL => by
  rw [hL]; exact rderive_any key salt (f + 2) 14 14 wx hk hs (by omega) (by omega) rfl
 obtain ⟨l1, hl1⟩ : ∃ l : Int, l = ((f + 1 : Nat) : Int) := ⟨_, rfl⟩
 obtain ⟨l2, hl2⟩ : ∃ l : Int, l = ((f + 2 : Nat) : Int) := ⟨_, rfl⟩
 have hdb1 := fun wx => hdb wx l1 hl1
 have hdc1 := fun wx => hdc wx l2 hl2
 rw [← hl1] at w1
 rw [← hl2] at w2
 clear hdb hdc
 obtain ⟨a, ha⟩ : ∃ a, a = drv key salt f 16 := ⟨_, rfl⟩
 obtain ⟨b, hb⟩ : ∃ b, b = drv key salt (f + 1) 20 := ⟨_, rfl⟩
 obtain ⟨c, hc⟩ : ∃ c, c = drv key salt (f + 2) 14 := ⟨_, rfl⟩
 have la : a.length = 16 := by rw [ha, drv_len]
 have lb : b.length = 20 := by rw [hb, drv_len]
 have lc : c.length = 14 := by rw [hc, drv_len]
 have hall : trioR a b c 16 20 14 = kys key salt f := by rw [trioR_all a b c la lb lc, ha, hb, hc]; rfl
 simp only [← ha] at hda
 simp only [← hb] at hdb1
 simp only [← hc] at hdc1
 have hkl := kys_len key salt f
 obtain ⟨K, hK⟩ : ∃ K, K = kys key salt f := ⟨_, rfl⟩
 rw [← hK] at hall hkl ⊢
 obtain ⟨M, hM⟩ : ∃ M, M = mst key salt := ⟨_, rfl⟩
 simp only [← hM] at hda hdb1 hdc1 hE0 hml ⊢
 have hML : (cells M).length = 30 := by rw [length_cells, hml]
 have hKL : (cells K).length = 50 := by rw [length_cells, hkl]
 have hZL : (cells Z50).length = 50 := by rw [length_cells, Z50_len]
 have HML := Lib.hid hML
 have HKL := Lib.hid hKL
 have HZL := Lib.hid hZL
 have HDA := Lib.hid hda
 have HDB := Lib.hid hdb1
 have HDC := Lib.hid hdc1
 have HALL := Lib.hid hall
 clear hda hdb1 hdc1 hl1 hl2 ha hb hc la lb lc hall hkl hK hM hml hML hKL hZL hk hs hf hfi
 go_enter Tryz.func26, Tryz.ntmps26
 go_wp2
 refine wp_region_noPanic ?_
 refine wp_region_held (S := XEnv w M Z50) (by kernel_rfl) ?_
 change wpAnyH _ _ _ _ _ _ _ _ (World.drew _)
 have hS : XEnv w M Z50 (((w.alloc (Obj.cells (cells M).toArray 25)).alloc (Obj.cells (cells Z50).toArray 42)).alloc (Obj.cells (cells Z50).toArray 42)).drew := hE0.below ((Below.refl _ _).drew)
 clear hE0
 generalize (((w.alloc (Obj.cells (cells M).toArray 25)).alloc (Obj.cells (cells Z50).toArray 42)).alloc (Obj.cells (cells Z50).toArray 42)).drew = x0 at *
 refine wpAnyH_take (i := 0) (v := .agg (cells M).toArray) rfl (by kernel_rfl) (by kernel_rfl) (by kernel_rfl) (fun _ _ _ h => h) (Or.inl ⟨by rfl, fun wz hz => ?_⟩) hS ?_
 · exact run_ld 25 _ rfl w.heap.size 0 (by rfl) (cells M) (hz.m.v.range 0 _ (by simp)) (row30 HML.out)
 simp only [Act.put, xgT, xgZ, xsT, xsS, xsZ]
 refine wpAnyH_take (i := 1) (v := ?_) rfl (by kernel_rfl) (by kernel_rfl) (by kernel_rfl) (fun _ _ _ h => h) (Or.inl ⟨by rfl, ?_⟩) hS ?_
 case refine_2 => (intro wz hz; go_simp; with_reducible rfl)
 simp only [Act.put, xgT, xgS, xgZ, xsT, xsS, xsZ]
 refine wpAnyH_take (i := 3) (v := .agg (cells M).toArray) rfl (by kernel_rfl) (by kernel_rfl) (by kernel_rfl) (fun _ _ _ h => h) (Or.inl ⟨by rfl, fun wz hz => ?_⟩) hS ?_
 · exact run_ld 25 _ rfl w.heap.size 0 (by rfl) (cells M) (hz.m.v.range 0 _ (by simp)) (row30 HML.out)
 simp only [Act.put, xgT, xgS, xgZ, xsT, xsS, xsZ]
 refine wpAnyH_take (i := 4) (v := ?_) rfl (by kernel_rfl) (by kernel_rfl) (by kernel_rfl) (fun _ _ _ h => h) (Or.inl ⟨by rfl, ?_⟩) hS ?_
 case refine_2 => (intro wz hz; go_simp; with_reducible rfl)
 simp only [Act.put, xgT, xgS, xgZ, xsT, xsS, xsZ]
 refine wpAnyH_take (i := 5) (v := ?_) rfl (by kernel_rfl) (by kernel_rfl) (by kernel_rfl) (fun _ _ _ h => h) (Or.inl ⟨by rfl, ?_⟩) hS ?_
 case refine_2 => (intro wz hz; go_simp; with_reducible rfl)
 simp only [Act.put, xgT, xgS, xgZ, xsT, xsS, xsZ]
 refine wpAnyH_take (i := 7) (v := .agg (cells M).toArray) rfl (by kernel_rfl) (by kernel_rfl) (by kernel_rfl) (fun _ _ _ h => h) (Or.inl ⟨by rfl, fun wz hz => ?_⟩) hS ?_
 · exact run_ld 25 _ rfl w.heap.size 0 (by rfl) (cells M) (hz.m.v.range 0 _ (by simp)) (row30 HML.out)
 simp only [Act.put, xgT, xgS, xgZ, xsT, xsS, xsZ]
 refine wpAnyH_take (i := 8) (v := ?_) rfl (by kernel_rfl) (by kernel_rfl) (by kernel_rfl) (fun _ _ _ h => h) (Or.inl ⟨by rfl, ?_⟩) hS ?_
 case refine_2 => (intro wz hz; go_simp; with_reducible rfl)
 simp only [Act.put, xgT, xgS, xgZ, xsT, xsS, xsZ]
 refine wpAnyH_take (i := 9) (v := ?_) rfl (by kernel_rfl) (by kernel_rfl) (by kernel_rfl) (fun _ _ _ h => h) (Or.inl ⟨by rfl, ?_⟩) hS ?_
 case refine_2 => (intro wz hz; go_simp; with_reducible rfl)
 simp only [Act.put, xgT, xgS, xgZ, xsT, xsS, xsZ]
 refine anyH_one (i := 2) (by kernel_rfl) rfl rfl (fun H hH => ?_)
 simp only [xgT, xgS, xgZ]
 go_simp
 refine (HDA.out x0).mono ?_
 rintro e x1 ⟨v1, rfl, hown1, hb1⟩
 have hS1 := hS.below hb1
 have hz0 := hS.k.lt
 refine hH _ _ hS1 ?_
 clear hH H hb1 hS
 refine anyH_one (i := 6) (by kernel_rfl) rfl rfl (fun H hH => ?_)
 simp only [xgT, xgS, xgZ]
 go_simp
 refine (HDB.out x1).mono ?_
 rintro e x2 ⟨v2, rfl, hown2, hb2⟩
 have hS2 := hS1.below hb2
 have hown12 := own_below hown1 hb2
 have hz1 := hS1.k.lt
 refine hH _ _ hS2 ?_
 clear hH H hb2 hS1 hown1
 refine anyH_one (i := 10) (by kernel_rfl) rfl rfl (fun H hH => ?_)
 simp only [xgT, xgS, xgZ]
 go_simp
 refine (HDC.out x2).mono ?_
 rintro e x3 ⟨v3, rfl, hown3, hb3⟩
 have hS3 := hS2.below hb3
 have hown13 := own_below hown12 hb3
 have hown23 := own_below hown2 hb3
 have hz2 := hS2.k.lt
 refine hH _ _ hS3 ?_
 clear hH H hb3 hS2 hown12 hown2
 refine wpAnyH_take (i := 11) (v := ?_) rfl (by kernel_rfl) (by kernel_rfl) (by kernel_rfl) (fun _ _ _ h => h) (Or.inl ⟨by rfl, ?_⟩) hS3 ?_
 case refine_2 => (intro wz hz; go_simp; with_reducible rfl)
 simp only [Act.put, xgT, xgS, xgZ, xsT, xsS, xsZ]
 refine wpAnyH_take (i := 12) (v := ?_) rfl (by kernel_rfl) (by kernel_rfl) (by kernel_rfl) (fun _ _ _ h => h) (Or.inl ⟨by rfl, ?_⟩) hS3 ?_
 case refine_2 => (intro wz hz; go_simp; with_reducible rfl)
 simp only [Act.put, xgT, xgS, xgZ, xsT, xsS, xsZ]
 refine wpAnyH_take (i := 13) (v := ?_) rfl (by kernel_rfl) (by kernel_rfl) (by kernel_rfl) (fun _ _ _ h => h) (Or.inl ⟨by rfl, ?_⟩) hS3 ?_
 case refine_2 => (intro wz hz; go_simp; with_reducible rfl)
 simp only [Act.put, xgT, xgS, xgZ, xsT, xsS, xsZ]
 refine wpAnyH_done (by kernel_rfl) ?_ _
 refine NoPanic.normal ?_
 obtain ⟨gA, cA, rfl, hgA, _, kA⟩ := own_rows hown13 (by omega)
 obtain ⟨gB, cB, rfl, hgB, _, kB⟩ := own_rows hown23 (by omega)
 obtain ⟨gC, cC, rfl, hgC, _, kC⟩ := own_rows hown3 (by omega)
 obtain ⟨G, hG⟩ : ∃ G, G = w.heap.size + 1 + 1 := ⟨_, rfl⟩
 have hE : TEnv w G gA gB gC a b c (trioR a b c 0 0 0) x3 := ⟨hS3.r, by rw [trioR_zero, hG]; exact hS3.k, kA, kB, kC, hS3.b, by omega, by omega, by omega, by omega⟩
 rw [← hG]
 clear hS3 hown13 hown23 hown3 kA kB kC hgA hgB hgC hz0 hz1 hz2 hG HDA HDB HDC w1 w2
 go_wp2
 go_loopw [9] (fun vi wr => ∃ i x z : Nat, Hid (x = min i 16 ∧ z = min i 14) ∧ i ≤ 20 ∧ vi = .int .i64 i ∧ TEnv w G gA gB gC a b c (trioR a b c x i z) wr) (fun i _ => 20 - (intOf i).toNat)
 case atStart => exact ⟨0, 0, 0, Lib.hid ⟨rfl, rfl⟩, by omega, rfl, hE⟩
 case round =>
  clear hE
  obtain ⟨i, x, z, HXZ, hi, rfl, hE⟩ := hrel
  by_cases hlt : i < 20
  · have hlen : ∀ L : List UInt8, L.length = 50 → ∀ (wr : World) (j : Nat), TEnv w G gA gB gC a b c L wr → j < 50 → ∃ y : Int, wr.cell? ⟨G, j, none⟩ = some (.int .u8 y) := fun L hL wr j h hj => ⟨_, h.k.cell (by rw [hL]; exact hj)⟩
    by_cases h14 : i < 14
    · have hxi : x = i := by have := HXZ.out; omega
      subst hxi
      have hzx : z = x := by have := HXZ.out; omega
      subst hzx
      have e1 := hE.put z (a.getD z 0)
      rw [trioR_x a b c z z z (by omega)] at e1
      have e2 := e1.put (36 + z) (c.getD z 0)
      rw [trioR_z a b c (z + 1) z z h14] at e2
      have e3 := e2.put (16 + z) (b.getD z 0)
      rw [trioR_y a b c (z + 1) z (z + 1) (by omega)] at e3
      have sA := hE.A z (by omega)
      have sC := e1.C z (by omega)
      have sB := e2.B z (by omega)
      obtain ⟨y1, d1⟩ := hlen _ (trioR_len _ _ _ _ _ _) _ z hE (by omega)
      obtain ⟨y2, d2⟩ := hlen _ (trioR_len _ _ _ _ _ _) _ (36 + z) e1 (by omega)
      obtain ⟨y3, d3⟩ := hlen _ (trioR_len _ _ _ _ _ _) _ (16 + z) e2 (by omega)
      have q1 := hE.k.frozen z
      have q2 := e1.k.frozen (36 + z)
      have q3 := e2.k.frozen (16 + z)
      obtain ⟨va, hva⟩ : ∃ v : Int, v = ((a.getD z 0).toNat : Int) := ⟨_, rfl⟩
      obtain ⟨vb, hvb⟩ : ∃ v : Int, v = ((b.getD z 0).toNat : Int) := ⟨_, rfl⟩
      obtain ⟨vc, hvc⟩ : ∃ v : Int, v = ((c.getD z 0).toNat : Int) := ⟨_, rfl⟩
      rw [← hva] at sA
      simp only [← hva, ← hvb, ← hvc] at e3 sB sC d2 d3 q2 q3
      clear hva hvb hvc e1 e2 hE hlen
      go_wp2
      go_roundw
      case rel => exact ⟨z + 1, z + 1, z + 1, Lib.hid (by omega), by omega, by go_num, e3⟩
      case measure => simp [intOf]; omega
    · obtain rfl : z = 14 := by have := HXZ.out; omega
      by_cases h16 : i < 16
      · have hxi : x = i := by have := HXZ.out; omega
        subst hxi
        have e1 := hE.put x (a.getD x 0)
        rw [trioR_x a b c x x 14 (by omega)] at e1
        have e3 := e1.put (16 + x) (b.getD x 0)
        rw [trioR_y a b c (x + 1) x 14 (by omega)] at e3
        have sA := hE.A x (by omega)
        have sB := e1.B x (by omega)
        obtain ⟨y1, d1⟩ := hlen _ (trioR_len _ _ _ _ _ _) _ x hE (by omega)
        obtain ⟨y3, d3⟩ := hlen _ (trioR_len _ _ _ _ _ _) _ (16 + x) e1 (by omega)
        have q1 := hE.k.frozen x
        have q3 := e1.k.frozen (16 + x)
        obtain ⟨va, hva⟩ : ∃ v : Int, v = ((a.getD x 0).toNat : Int) := ⟨_, rfl⟩
        obtain ⟨vb, hvb⟩ : ∃ v : Int, v = ((b.getD x 0).toNat : Int) := ⟨_, rfl⟩
        rw [← hva] at sA
        simp only [← hva, ← hvb] at e3 sB d3 q3
        clear hva hvb e1 hE hlen
        go_wp2
        go_roundw
        case rel => exact ⟨x + 1, x + 1, 14, Lib.hid (by omega), by omega, by go_num, e3⟩
        case measure => simp [intOf]; omega
      · obtain rfl : x = 16 := by have := HXZ.out; omega
        have e3 := hE.put (16 + i) (b.getD i 0)
        rw [trioR_y a b c 16 i 14 (by omega)] at e3
        have sB := hE.B i (by omega)
        obtain ⟨y3, d3⟩ := hlen _ (trioR_len _ _ _ _ _ _) _ (16 + i) hE (by omega)
        have q3 := hE.k.frozen (16 + i)
        obtain ⟨vb, hvb⟩ : ∃ v : Int, v = ((b.getD i 0).toNat : Int) := ⟨_, rfl⟩
        rw [← hvb] at sB
        simp only [← hvb] at e3
        clear hvb hE hlen
        go_wp2
        go_roundw
        case rel => exact ⟨i + 1, 16, 14, Lib.hid (by omega), by omega, by go_num, e3⟩
        case measure => simp [intOf]; omega
  · obtain rfl : i = 20 := by omega
    obtain rfl : x = 16 := by have := HXZ.out; omega
    obtain rfl : z = 14 := by have := HXZ.out; omega
    rw [HALL.out] at hE
    have hk5 := hE.k
    have hr4 := hE.r
    have hnG := hE.nG
    have hbb := hE.b
    clear hE
    go_wp2_with (first
     | (with_reducible refine wpList_ld rfl 42 (.tmp 5) rfl G 0 rfl (cells K) (hk5.v.range 0 _ (by simp)) (row50 HKL.out) ?_)
     | ((with_reducible refine wpList_st rfl 42 (.tmp 4) (.tmp 50) rfl (w.heap.size + 1) 0 (cells K) rfl rfl 42 _ hr4.v (by rw [HKL.out, HZL.out]; omega) (row50 HKL.out) (cells_one _) ?_); intro x4 hB4 ho4; rw [splice_all _ _ (by rw [HKL.out, HZL.out])] at hB4))
    exact ret_row (by rfl) (by rfl) hB4 (row50 HKL.out) (by rfl) ⟨rfl, hbb.trans (ho4.below (by omega))⟩
section
variable {P : Program} {w : World} {ops : Array Oper} {rest : List Oper} {op : Oper} {a : Act} {Q : Exit → Act → World → Prop}
theorem wpList_built2y (hgd : op.guard = none) (t : TypeId) (i j : Nat) (x y : Operand) (ho : op.op = .build t #[(i, x), (j, y)]) (u u2 v : Value) (hx : a.eval x = u) (hy : a.eval y = u2) (hr : (Instr.build t #[(i, u), (j, u2)]).run P w = .ok v w)
 (hK : wpList P ops Q rest (a.put op.dst v) w) : wpList P ops Q (op :: rest) a w := by
 refine wpList_plain hgd fun K hK2 => ?_
 unfold Oper.wp execOp
 simp only [ho, List.map_toArray, List.map_cons, List.map_nil, hx, hy, Sem.run_bind, hr, Result.andThen_ok, Sem.run_pure]
 exact hK2 _ _ hK
end
set_option maxRecDepth 100000 in
theorem list50 {K : List UInt8} (h : K.length = 50) : ∃ x0 x1 x2 x3 x4 x5 x6 x7 x8 x9 x10 x11 x12 x13 x14 x15 x16 x17 x18 x19 x20 x21 x22 x23 x24 x25 x26 x27 x28 x29 x30 x31 x32 x33 x34 x35 x36 x37 x38 x39 x40 x41 x42 x43 x44 x45 x46 x47 x48 x49, K = x0 :: x1 :: x2 :: x3 :: x4 :: x5 :: x6 :: x7 :: x8 :: x9 :: x10 :: x11 :: x12 :: x13 :: x14 :: x15 :: x16 :: x17 :: x18 :: x19 :: x20 :: x21 :: x22 :: x23 :: x24 :: x25 :: x26 :: x27 :: x28 :: x29 :: x30 :: x31 :: x32 :: x33 :: x34 :: x35 :: x36 :: x37 :: x38 :: x39 :: x40 :: x41 :: x42 :: x43 :: x44 :: x45 :: x46 :: x47 :: x48 :: x49 :: [] := by
 match K, h with
 | x0 :: x1 :: x2 :: x3 :: x4 :: x5 :: x6 :: x7 :: x8 :: x9 :: x10 :: x11 :: x12 :: x13 :: x14 :: x15 :: x16 :: x17 :: x18 :: x19 :: x20 :: x21 :: x22 :: x23 :: x24 :: x25 :: x26 :: x27 :: x28 :: x29 :: x30 :: x31 :: x32 :: x33 :: x34 :: x35 :: x36 :: x37 :: x38 :: x39 :: x40 :: x41 :: x42 :: x43 :: x44 :: x45 :: x46 :: x47 :: x48 :: x49 :: [], _ => exact ⟨x0, x1, x2, x3, x4, x5, x6, x7, x8, x9, x10, x11, x12, x13, x14, x15, x16, x17, x18, x19, x20, x21, x22, x23, x24, x25, x26, x27, x28, x29, x30, x31, x32, x33, x34, x35, x36, x37, x38, x39, x40, x41, x42, x43, x44, x45, x46, x47, x48, x49, rfl⟩
end Go.Proofs.YtheefckohnaceaaGreatDoor
