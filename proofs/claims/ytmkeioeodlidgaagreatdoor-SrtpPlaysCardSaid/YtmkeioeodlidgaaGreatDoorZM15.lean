/- Several texts in one: plain words and walks. No statement is proved here. -/
import Derived.Test.YtmkeioeodlidgaaGreatDoorZM1
import Derived.Test.YtmkeioeodlidgaaGreatDoorZM14
import Derived.LoopTactic
namespace Go.Proofs.YtmkeioeodlidgaaGreatDoor
open Go.RowKit
set_option linter.unusedVariables false

def icells (L : List Int) : List Value := L.map fun z => .int .i64 z
theorem icells_len (L : List Int) : (icells L).length = L.length := by simp [icells]
theorem icells_at {L : List Int} {j : Nat} (h : j < L.length) : (icells L)[j]? = some (.int .i64 (L.getD j 0)) := by simp [icells, List.getD, h]
theorem icells_snoc (L : List Int) (x : Int) : icells (L ++ [x]) = icells L ++ [.int .i64 x] := by simp [icells]

def RdI (w : World) (A : Option Addr) (n : Nat) (zs : List Int) : Prop :=
 zs.length = n ∧ n ≤ 9223372036854775807 ∧ (∀ z ∈ zs, -9223372036854775808 ≤ z ∧ z ≤ 9223372036854775807) ∧
 (0 < n → ∃ b off, A = some ⟨b, off, none⟩ ∧ b < w.heap.size ∧ ∀ j, j < n → w.cell? ⟨b, off + j, none⟩ = some (.int .i64 (zs.getD j 0)))
theorem RdI.len {w : World} {A : Option Addr} {n : Nat} {zs : List Int} (h : RdI w A n zs) : zs.length = n := h.1
theorem RdI.small {w : World} {A : Option Addr} {n : Nat} {zs : List Int} (h : RdI w A n zs) : n ≤ 9223372036854775807 := h.2.1
theorem RdI.bd {w : World} {A : Option Addr} {n : Nat} {zs : List Int} (h : RdI w A n zs) {j : Nat} (hj : j < n) : -9223372036854775808 ≤ zs.getD j 0 ∧ zs.getD j 0 ≤ 9223372036854775807 := by
 have hl := h.len
 have : j < zs.length := by omega
 rw [List.getD_eq_getElem?_getD, List.getElem?_eq_getElem this, Option.getD_some]
 exact h.2.2.1 _ (List.getElem_mem this)
theorem RdI.below {w w' : World} {A : Option Addr} {n : Nat} {zs : List Int} (h : RdI w A n zs) {B : Nat} (hb : Below B w w') (hB : w.heap.size ≤ B) : RdI w' A n zs := by
 refine ⟨h.1, h.2.1, h.2.2.1, fun hn => ?_⟩
 obtain ⟨b, off, hA, hlt, hc⟩ := h.2.2.2 hn
 exact ⟨b, off, hA, Nat.lt_of_lt_of_le hlt hb.size, fun j hj => (hb.cell (p := ⟨b, off + j, none⟩) (by simp only; omega)).trans (hc j hj)⟩
theorem RdI.drew {w : World} {A : Option Addr} {n : Nat} {zs : List Int} (h : RdI w A n zs) : RdI w.drew A n zs := h
theorem RdI.at_ {w : World} {A : Option Addr} {n : Nat} {zs : List Int} (h : RdI w A n zs) {j : Nat} (hj : j < n) : ∃ ad, A = some ad ∧ w.cell? (ad.add j) = some (.int .i64 (zs.getD j 0)) := by
 obtain ⟨b, off, hA, _, hc⟩ := h.2.2.2 (by omega)
 exact ⟨_, hA, by rw [add_lit]; exact hc j hj⟩
theorem RdI.of_row {w : World} {a : Option Addr} {len cap : Nat} {zs : List Int}
 (h : (a = none ∧ len = 0 ∧ cap = 0 ∧ zs = []) ∨
   ∃ x, a = some x ∧ len ≤ cap ∧ cap ≤ maxLen ∧ zs.length = cap ∧ (∀ i, i < zs.length → w.cell? (x.add i) = some (.int .i64 (zs.getD i 0))) ∧ ∀ n ∈ zs, (Lit.int .i64 n).wf = true) :
 RdI w a len (zs.take len) := by
 rcases h with ⟨rfl, rfl, rfl, rfl⟩ | ⟨x, rfl, hl, hm, hz, hc, hw⟩
 · exact ⟨rfl, by omega, by simp, fun h => absurd h (by omega)⟩
 · simp only [maxLen] at hm
   refine ⟨by simp; omega, by omega, fun z hz' => bounds_i64 (hw z (List.mem_of_mem_take hz')), fun hn => ?_⟩
   obtain ⟨b, off, spot⟩ := x
   have h0 := hc 0 (by omega)
   have hs : spot = none := by simpa [Addr.add] using World.cell?_spot h0
   subst hs
   refine ⟨b, off, rfl, ?_, fun j hj => ?_⟩
   · have := World.block_lt_of_cell? w _ h0
     rw [add_lit] at this
     exact this
   · have hcj := hc j (by omega)
     rw [add_lit] at hcj
     rw [hcj]
     simp [List.getD, hj]
theorem own_ints {w : World} {base n : Nat} {e : TypeId} {v : Value} {L : List Int} (h : w.ownsRow base e 1 v n (icells L)) (hn : 0 < n) :
 ∃ g c, v = .slice (some ⟨g, 0, none⟩) n c ∧ base ≤ g ∧ g < w.heap.size ∧ ∀ j, j < n → w.cell? ⟨g, j, none⟩ = some (.int .i64 (L.getD j 0)) := by
 have hl : L.length = n := by simpa [icells_len] using h.1
 obtain ⟨g, c, rfl, hb, hlt⟩ := h.form hn
 exact ⟨g, c, rfl, hb, hlt, fun j hj => by rw [h.cellAt j (by omega), icells_at (by omega)]⟩
theorem own_keep {w w' : World} {base n : Nat} {e : TypeId} {v : Value} {xs : List Value} (h : w.ownsRow base e 1 v n xs) (hb : Below w.heap.size w w') : w'.ownsRow base e 1 v n xs :=
 h.kept (grown_of_below hb none) (by cases v.ownBlock <;> simp)
theorem take_next (L : List Int) (k : Nat) (h : k < L.length) : L.take (k + 1) = L.take k ++ [L.getD k 0] := by
 rw [List.take_succ_eq_append_getElem h]
 simp [List.getD, h]
def RW (base r : Nat) (L : List Int) (w : World) : Prop :=
 ∃ A c, BlkV w r 92 [.slice A L.length c] ∧ w.ownsRow base 2 1 (.slice A L.length c) L.length (icells L)
theorem RW.lt {base r : Nat} {L : List Int} {w : World} (h : RW base r L w) : r < w.heap.size := by obtain ⟨_, _, hB, _⟩ := h; exact hB.lt
theorem RW.below {base r : Nat} {L : List Int} {w w' : World} (h : RW base r L w) (hb : Below w.heap.size w w') : RW base r L w' := by
 obtain ⟨A, c, hB, hO⟩ := h
 exact ⟨A, c, hB.below hb hB.lt, own_keep hO hb⟩
theorem RW.drew {base r : Nat} {L : List Int} {w : World} (h : RW base r L w) : RW base r L w.drew := h.below ((Below.refl _ _).drew)

theorem rhigh_any (base r : Nat) (L : List Int) (w : World) (h : RW base r L w) (hl : L.length ≤ 1000) :
 Calls Tryz.prog 41 #[.pointer (some ⟨r, 0, none⟩)] w fun e w' => e = .returned (.int .i64 (hiL L)) ∧ w = w' := by
 obtain ⟨A, c, hB, hO⟩ := h
 obtain ⟨n, hn⟩ : ∃ n, n = L.length := ⟨_, rfl⟩
 rw [← hn] at hB hO hl
 have hc : w.cell? ⟨r, 0, none⟩ = some (.slice A n c) := (hB.cell 0).trans rfl
 have h0 : hiL (L.take 0) = -1 := rfl
 have hN := Lib.hid hn
 clear hB hn
 go_enter Tryz.func41, Tryz.ntmps41
 go_wp2
 go_loop [3, 4] (fun vh vi => ∃ k : Nat, k ≤ n ∧ vh = .int .i64 (hiL (L.take k)) ∧ vi = .int .i64 k) (fun _ i => n - (intOf i).toNat)
 case atStart => exact ⟨0, by omega, rfl, rfl⟩
 case round =>
  obtain ⟨k, hk, rfl, rfl⟩ := hrel
  by_cases hlt : k < n
  · obtain ⟨b, c', hv, _, _, hcell⟩ := own_ints hO (by omega)
    injection hv with e1 e2 e3
    subst e1; subst e3
    have hck := hcell k hlt
    have hst := take_next L k (by rw [← hN.out]; exact hlt)
    have hs2 := hiL_snoc (L.take k) (L.getD k 0)
    rw [← hst] at hs2
    obtain ⟨y, hy⟩ : ∃ y, y = L.getD k 0 := ⟨_, rfl⟩
    obtain ⟨H, hH⟩ : ∃ H, H = hiL (L.take k) := ⟨_, rfl⟩
    obtain ⟨H2, hH2⟩ : ∃ H, H = hiL (L.take (k + 1)) := ⟨_, rfl⟩
    rw [← hy] at hck hs2
    rw [← hH] at hs2 ⊢
    rw [← hH2] at hs2
    have HH2 := Lib.hid hH2
    have hki : (k : Int) < (n : Int) := by omega
    clear hcell hy hH hH2 hst hO
    by_cases hgt : H < y
    · rw [if_pos hgt] at hs2
      subst hs2
      go_wp2
      go_round
      case rel => exact ⟨k + 1, by omega, by rw [← HH2.out], by go_num⟩
      case measure => simp [intOf]; omega
    · rw [if_neg hgt] at hs2
      subst hs2
      have hgt' : y ≤ H2 := by omega
      go_wp2
      go_round
      case rel => exact ⟨k + 1, by omega, by rw [← HH2.out], by go_num⟩
      case measure => simp [intOf]; omega
  · obtain rfl : k = n := by omega
    rw [List.take_of_length_le (by rw [← hN.out]; omega)]
    go_wp2
    go_ret
    exact ⟨rfl, rfl⟩

theorem fr_low {L : List Int} {x : Int} (h : x < 0 ∨ x + 64 ≤ hiL L) : frL L x = false := by
 rw [← Bool.not_eq_true, frL_iff]; intro h; omega
theorem fr_there {L : List Int} {k : Nat} (hk : k < L.length) : frL L (L.getD k 0) = false := by
 rw [← Bool.not_eq_true, frL_iff]
 intro h
 refine h.2.2 ?_
 rw [List.getD_eq_getElem?_getD, List.getElem?_eq_getElem hk, Option.getD_some]
 exact List.getElem_mem hk

theorem rfresh_any (base r : Nat) (L : List Int) (x : Int) (w : World) (h : RW base r L w) (hl : L.length ≤ 1000) (hx : -9223372036854775808 ≤ x ∧ x ≤ 4611686018427387904) (ht : hiL L ≤ 4611686018427387904) :
 Calls Tryz.prog 37 #[.pointer (some ⟨r, 0, none⟩), .int .i64 x] w fun e w' => e = .returned (.bool (frL L x)) ∧ w = w' := by
 have HH := Lib.hid (rhigh_any base r L w h hl)
 have hlow := hiL_low L
 obtain ⟨H, hH⟩ : ∃ H, H = hiL L := ⟨_, rfl⟩
 by_cases h0 : x < 0
 · rw [fr_low (.inl h0)]
   clear h
   go_enter Tryz.func37, Tryz.ntmps37
   go_wp2
   go_ret
   exact ⟨rfl, rfl⟩
 have h0' : 0 ≤ x := by omega
 by_cases h1 : x + 64 ≤ hiL L
 · rw [fr_low (.inr h1)]
   rw [← hH] at HH h1 hlow ht
   clear h hH h0
   go_enter Tryz.func37, Tryz.ntmps37
   go_wp2_with (go_at_call 41; ((with_reducible refine (Hid.out HH).mono ?_); rintro e w' ⟨rfl, rfl⟩))
   go_ret
   exact ⟨rfl, rfl⟩
 have h1' : hiL L < x + 64 := by omega
 have hfr : (∀ y ∈ L, y ≠ x) → frL L x = true := fun hy => by
  rw [frL_iff]
  exact ⟨h0', h1', fun hm => hy x hm rfl⟩
 have hth : ∀ k, k < L.length → L.getD k 0 = x → frL L x = false := fun k hk e => e ▸ fr_there hk
 rw [← hH] at HH h1' hlow ht
 obtain ⟨B, hBf⟩ : ∃ B, B = frL L x := ⟨_, rfl⟩
 simp only [← hBf] at hfr hth
 rw [← hBf]
 obtain ⟨A, c, hB, hO⟩ := h
 obtain ⟨n, hn⟩ : ∃ n, n = L.length := ⟨_, rfl⟩
 rw [← hn] at hB hO hl hth
 have hc : w.cell? ⟨r, 0, none⟩ = some (.slice A n c) := (hB.cell 0).trans rfl
 have hN := Lib.hid hn
 have HF := Lib.hid hfr
 have HT := Lib.hid hth
 clear hB hn hH h0 h1 hBf hfr hth
 go_enter Tryz.func37, Tryz.ntmps37
 go_wp2_with (go_at_call 41; ((with_reducible refine (Hid.out HH).mono ?_); rintro e w' ⟨rfl, rfl⟩))
 go_loop [5] (fun vi => ∃ k : Nat, k ≤ n ∧ Hid (∀ y ∈ L.take k, y ≠ x) ∧ vi = .int .i64 k) (fun i => n - (intOf i).toNat)
 case atStart => exact ⟨0, by omega, Lib.hid (by simp), rfl⟩
 case round =>
  obtain ⟨k, hk, hno, rfl⟩ := hrel
  by_cases hlt : k < n
  · obtain ⟨b, c', hv, _, _, hcell⟩ := own_ints hO (by omega)
    injection hv with e1 e2 e3
    subst e1; subst e3
    have hck := hcell k hlt
    have hst := take_next L k (by rw [← hN.out]; exact hlt)
    have HTk := Lib.hid (HT.out k hlt)
    have hki : (k : Int) < (n : Int) := by omega
    have HNO : Hid (L.getD k 0 ≠ x → ∀ y ∈ L.take (k + 1), y ≠ x) := Lib.hid fun hne y hy => by
     rw [hst] at hy
     rcases List.mem_append.1 hy with h | h
     · exact hno.out y h
     · rw [List.mem_singleton.1 h]; exact hne
    obtain ⟨y, hy⟩ : ∃ y, y = L.getD k 0 := ⟨_, rfl⟩
    rw [← hy] at hck HTk HNO
    clear hcell hy hst hno hO HT
    by_cases he : y = x
    · subst he
      have e := HTk.out rfl
      subst e
      clear HTk HNO HF
      go_wp2
      go_ret
      exact ⟨rfl, rfl⟩
    · have he' : (y == x) = false := by simpa using he
      have HNO' := Lib.hid (HNO.out he)
      clear HNO HTk he
      go_wp2
      go_round
      case rel => exact ⟨k + 1, by omega, HNO', by go_num⟩
      case measure => simp [intOf]; omega
  · obtain rfl : k = n := by omega
    have e := HF.out (fun y hy => hno.out y (by rw [List.take_of_length_le (by rw [← hN.out]; omega)]; exact hy))
    subst e
    clear hno
    go_wp2
    go_ret
    exact ⟨rfl, rfl⟩
theorem i64_inf : (Tryz.prog.info? 2).map (fun i => (i.zero, i.size, i.bytes)) = some (some (.int .i64 0), 1, 8) := by kernel_rfl

def nmC (ws : List (Nat × List Int)) : List Value := ucells (ws.map (·.1))
def ptC (r : Nat → Nat) (m : Nat) : List Value := (List.range m).map fun i => .pointer (some ⟨r i, 0, none⟩)
theorem nmC_len (ws : List (Nat × List Int)) : (nmC ws).length = ws.length := by simp [nmC, ucells]
theorem nmC_at {ws : List (Nat × List Int)} {i : Nat} (h : i < ws.length) : (nmC ws)[i]? = some (.int .u32 ((ws.getD i (0, [])).1 : Int)) := by simp [nmC, ucells, List.getD, h]
theorem ptC_at {r : Nat → Nat} {m i : Nat} (h : i < m) : (ptC r m)[i]? = some (.pointer (some ⟨r i, 0, none⟩)) := by simp [ptC, h]
structure WinF (w : World) (r : Nat) (v : Value) (L : List Int) : Prop where
 b : BlkV w r 92 [v]
 o : w.ownsRow 0 2 1 v L.length (icells L)
theorem WinF.rw {w : World} {r : Nat} {v : Value} {L : List Int} (h : WinF w r v L) : RW 0 r L w := by
 obtain ⟨A, c, hv⟩ := own_formN h.o
 subst hv
 exact ⟨A, c, h.b, h.o⟩
structure RWay (w : World) (g : Nat) (y : Wy) (nm ww : Value) (r : Nat → Nat) (v : Nat → Value) : Prop where
 b : BlkV w g 52 (cells y.ks ++ [.int .i64 y.limit, .int .i64 y.used, nm, ww])
 n : w.ownsRow 0 33 1 nm y.ws.length (nmC y.ws)
 p : w.ownsRow 0 88 1 ww y.ws.length (ptC r y.ws.length)
 wins : ∀ i, i < y.ws.length → WinF w (r i) (v i) (y.ws.getD i (0, [])).2
 apart : ∀ i j, i < y.ws.length → j < y.ws.length → i ≠ j → r i ≠ r j ∧ ∀ k, (v i).ownBlock = some k → (v j).ownBlock ≠ some k
def FW (g m : Nat) (nm ww : Value) (r : Nat → Nat) (v : Nat → Value) (k : Nat) : Prop := k = g ∨ nm.ownBlock = some k ∨ ww.ownBlock = some k ∨ ∃ i, i < m ∧ (k = r i ∨ (v i).ownBlock = some k)
def Wy.good (y : Wy) : Prop := y.fit ∧ y.used ≤ 900 ∧ ∀ x ∈ y.ws, (x.2.length : Int) ≤ y.used ∧ ∀ i ∈ x.2, 0 ≤ i ∧ i < 281474976710656
theorem Wy.good.at_ {y : Wy} (h : y.good) {i : Nat} (hi : i < y.ws.length) : (y.ws.getD i (0, [])).1 < 4294967296 ∧ (y.ws.getD i (0, [])).2.length ≤ 900 ∧ hiL (y.ws.getD i (0, [])).2 < 281474976710656 ∧ ∀ x ∈ (y.ws.getD i (0, [])).2, 0 ≤ x ∧ x < 281474976710656 := by
 have e : y.ws.getD i (0, []) = y.ws[i] := by simp [List.getD, hi]
 have hm : y.ws.getD i (0, []) ∈ y.ws := e ▸ List.getElem_mem hi
 obtain ⟨hf, hu, hw⟩ := h
 obtain ⟨h1, h2⟩ := hw _ hm
 refine ⟨hf.2.2.2.2.2.2 _ hm, by omega, ?_, h2⟩
 rcases (hiL_facts (y.ws.getD i (0, [])).2).2.2 with h | h
 · omega
 · exact (h2 _ h).2
def RY (w : World) (p : Value) (y : Wy) (F : Nat → Prop) : Prop := ∃ g nm ww r v, p = .pointer (some ⟨g, 0, none⟩) ∧ RWay w g y nm ww r v ∧ F = FW g y.ws.length nm ww r v
section
variable {w w2 : World} {g : Nat} {y : Wy} {nm ww : Value} {r : Nat → Nat} {v : Nat → Value}
theorem RWay.low (h : RWay w g y nm ww r v) {k : Nat} (hk : FW g y.ws.length nm ww r v k) : k < w.heap.size := by
 rcases hk with rfl | hk | hk | ⟨i, hi, rfl | hk⟩
 · exact h.b.lt
 · exact (h.n.lt k hk).2
 · exact (h.p.lt k hk).2
 · exact (h.wins i hi).b.lt
 · exact ((h.wins i hi).o.lt k hk).2
theorem own_at_same {w w2 : World} {base n : Nat} {e : TypeId} {v : Value} {xs : List Value} (h : w.ownsRow base e 1 v n xs) (hk : ∀ k, v.ownBlock = some k → w2.heap[k]? = w.heap[k]?) : w2.ownsRow base e 1 v n xs := by
 refine ⟨h.1, h.2.imp id fun ⟨g, cap, cur, h1, h2, h3, h4⟩ => ⟨g, cap, cur, h1, h2, ?_, h4⟩⟩
 rw [hk g (by rw [h1]; rfl)]
 exact h3
theorem RWay.stay (h : RWay w g y nm ww r v) (hs : ∀ k, FW g y.ws.length nm ww r v k → w2.heap[k]? = w.heap[k]?) : RWay w2 g y nm ww r v where
 b := (hs g (.inl rfl)).trans h.b
 n := own_at_same h.n fun k hk => hs k (.inr (.inl hk))
 p := own_at_same h.p fun k hk => hs k (.inr (.inr (.inl hk)))
 wins i hi := ⟨(hs _ (.inr (.inr (.inr ⟨i, hi, .inl rfl⟩)))).trans (h.wins i hi).b, own_at_same (h.wins i hi).o fun k hk => hs k (.inr (.inr (.inr ⟨i, hi, .inr hk⟩)))⟩
 apart := h.apart
theorem ry_lone : Lone RY where
 low := by
  rintro w p s F ⟨g, nm, ww, r, v, rfl, h, rfl⟩ k hk
  exact h.low hk
 stay := by
  rintro w w2 p s F ⟨g, nm, ww, r, v, rfl, h, rfl⟩ _ hs
  exact ⟨g, nm, ww, r, v, rfl, h.stay hs, rfl⟩
theorem RWay.below (h : RWay w g y nm ww r v) (hb : Below w.heap.size w w2) : RWay w2 g y nm ww r v := h.stay fun k hk => hb.block k (h.low hk)
theorem RWay.cells_ (h : RWay w g y nm ww r v) (hf : y.fit) : w.cell? ⟨g, 50, none⟩ = some (.int .i64 y.limit) ∧ w.cell? ⟨g, 51, none⟩ = some (.int .i64 y.used) ∧ w.cell? ⟨g, 52, none⟩ = some nm ∧ w.cell? ⟨g, 53, none⟩ = some ww := by
 have hl : (cells y.ks).length = 50 := by rw [length_cells, Wy.ks_len hf]
 refine ⟨(h.b.cell 50).trans ?_, (h.b.cell 51).trans ?_, (h.b.cell 52).trans ?_, (h.b.cell 53).trans ?_⟩ <;>
  (rw [List.getElem?_append_right (by omega), hl]; rfl)
end
def atW : List (Nat × List Int) → Nat → Option Nat
 | [], _ => none
 | (n, _) :: l, x => if n = x then some 0 else (atW l x).map (· + 1)
theorem atW_some : ∀ {ws : List (Nat × List Int)} {x i : Nat}, atW ws x = some i → i < ws.length ∧ (ws.getD i (0, [])).1 = x ∧ lookW ws x = some (ws.getD i (0, [])).2
 | [], _, _, h => nomatch h
 | (n, L) :: l, x, i, h => by
   unfold atW at h
   unfold lookW
   by_cases e : n = x
   · rw [if_pos e] at h
     injection h with h
     subst h
     rw [if_pos e]
     exact ⟨by simp, e, rfl⟩
   · rw [if_neg e] at h
     rw [if_neg e]
     match hl : atW l x with
     | none => rw [hl] at h; exact nomatch h
     | some j =>
       rw [hl] at h
       simp only [Option.map_some, Option.some.injEq] at h
       subst h
       obtain ⟨h1, h2, h3⟩ := atW_some hl
       exact ⟨by simp only [List.length_cons]; omega, by simpa using h2, by simpa using h3⟩
theorem atW_none : ∀ {ws : List (Nat × List Int)} {x : Nat}, atW ws x = none → lookW ws x = none ∧ ∀ i, i < ws.length → (ws.getD i (0, [])).1 ≠ x
 | [], _, _ => ⟨rfl, fun _ h => absurd h (by simp)⟩
 | (n, L) :: l, x, h => by
   unfold atW at h
   unfold lookW
   by_cases e : n = x
   · rw [if_pos e] at h; exact nomatch h
   · rw [if_neg e] at h
     rw [if_neg e]
     have hl : atW l x = none := by simpa using h
     obtain ⟨h1, h2⟩ := atW_none hl
     refine ⟨h1, fun i hi => ?_⟩
     match i with
     | 0 => exact e
     | i + 1 => simpa using h2 i (by simp only [List.length_cons] at hi; omega)
theorem atW_first : ∀ {ws : List (Nat × List Int)} {x k : Nat}, (∀ j, j < k → (ws.getD j (0, [])).1 ≠ x) → k < ws.length → (ws.getD k (0, [])).1 = x → atW ws x = some k
 | [], _, _, _, hk, _ => absurd hk (by simp)
 | (n, L) :: l, x, 0, _, _, h => by
   unfold atW
   rw [if_pos (show n = x from h)]
 | (n, L) :: l, x, k + 1, h0, hk, h => by
   unfold atW
   rw [if_neg (show n ≠ x from h0 0 (by omega)), atW_first (ws := l) (k := k) (fun j hj => h0 (j + 1) (by omega)) (by simpa using hk) (by simpa using h)]
   rfl
theorem atW_never {ws : List (Nat × List Int)} {x : Nat} (h : ∀ j, j < ws.length → (ws.getD j (0, [])).1 ≠ x) : atW ws x = none := by
 match ha : atW ws x with
 | none => rfl
 | some i => obtain ⟨h1, h2, _⟩ := atW_some ha; exact absurd h2 (h i h1)
def atI (ws : List (Nat × List Int)) (x : Nat) : Int := match atW ws x with
 | none => -1
 | some i => (i : Int)
theorem rat15_any (g : Nat) (y : Wy) (nm ww : Value) (r : Nat → Nat) (v : Nat → Value) (x : Nat) (w : World) (h : RWay w g y nm ww r v) (hf : y.fit) (hx : x < 4294967296) :
 Calls Tryz.prog 35 #[.pointer (some ⟨g, 0, none⟩), .int .u32 (x : Int)] w fun e w' => e = .returned (.int .i64 (atI y.ws x)) ∧ w = w' := by
 obtain ⟨A, c, hv⟩ := own_formN h.n
 subst hv
 have hc := (h.cells_ hf).2.2.1
 obtain ⟨n, hn⟩ : ∃ n, n = y.ws.length := ⟨_, rfl⟩
 have hn8 : n ≤ 8 := hn ▸ hf.2.2.2.2.2.1
 have ho := h.n
 have hN : ∀ k, k < n → (y.ws.getD k (0, [])).1 < 4294967296 := fun k hk => hf.2.2.2.2.2.2 _ (by
  have e : y.ws.getD k (0, []) = y.ws[k]'(by omega) := by simp [List.getD, (by omega : k < y.ws.length)]
  rw [e]; exact List.getElem_mem _)
 have HFI := Lib.hid (fun (k : Nat) (h0 : ∀ j, j < k → (y.ws.getD j (0, [])).1 ≠ x) (hk : k < n) (h : (y.ws.getD k (0, [])).1 = x) => show atI y.ws x = (k : Int) by unfold atI; rw [atW_first h0 (hn ▸ hk) h])
 have HNE := Lib.hid (fun (h : ∀ j, j < n → (y.ws.getD j (0, [])).1 ≠ x) => show atI y.ws x = -1 by unfold atI; rw [atW_never (fun j hj => h j (hn ▸ hj))])
 have HAT := Lib.hid (fun (k : Nat) (hk : k < n) => nmC_at (ws := y.ws) (i := k) (hn ▸ hk))
 rw [← hn] at hc ho
 have HO := Lib.hid ho
 have HNN := Lib.hid hN
 obtain ⟨R, hR⟩ : ∃ R, R = atI y.ws x := ⟨_, rfl⟩
 rw [← hR] at HFI HNE ⊢
 clear h hf ho hN hn hR
 go_enter Tryz.func35, Tryz.ntmps35
 go_wp2
 go_loop [5] (fun vi => ∃ k : Nat, k ≤ n ∧ Hid (∀ j, j < k → (y.ws.getD j (0, [])).1 ≠ x) ∧ vi = .int .i64 k) (fun i => n - (intOf i).toNat)
 case atStart => exact ⟨0, by omega, Lib.hid (fun j hj => absurd hj (by omega)), rfl⟩
 case round =>
  obtain ⟨k, hk, hno, rfl⟩ := hrel
  by_cases hlt : k < n
  · obtain ⟨b, c', hv, _, _⟩ := HO.out.form (by omega)
    injection hv with e1 e2 e3
    subst e1; subst e3
    have hck := (HO.out.cellAt k (by omega)).trans (HAT.out k hlt)
    have hkb := HNN.out k hlt
    have hki : (k : Int) < (n : Int) := by omega
    have H1 := Lib.hid (HFI.out k hno.out hlt)
    have H2 : Hid ((y.ws.getD k (0, [])).1 ≠ x → ∀ j, j < k + 1 → (y.ws.getD j (0, [])).1 ≠ x) := Lib.hid fun hne j hj => by
     rcases Nat.lt_succ_iff_lt_or_eq.1 hj with h | rfl
     · exact hno.out j h
     · exact hne
    obtain ⟨z, hz⟩ : ∃ z, z = (y.ws.getD k (0, [])).1 := ⟨_, rfl⟩
    rw [← hz] at hck hkb H1 H2
    clear hz hno HAT HNN HFI
    by_cases he : z = x
    · subst he
      have e := H1.out rfl
      subst e
      clear H1 H2
      go_wp2
      go_ret
      exact ⟨rfl, rfl⟩
    · have he' : ((z : Int) == (x : Int)) = false := by simp; omega
      have H2' := Lib.hid (H2.out he)
      clear H1 H2 he
      go_wp2
      go_round
      case rel => exact ⟨k + 1, by omega, H2', by go_num⟩
      case measure => simp [intOf]; omega
  · obtain rfl : k = n := by omega
    have e := HNE.out hno.out
    subst e
    clear hno
    go_wp2
    go_ret
    exact ⟨rfl, rfl⟩
theorem likely_ge (h s : Int) (hs : 0 ≤ s) : 0 ≤ likely h s := by
 have hb := aheadZ_bd s h
 unfold likely
 split
 · exact hs
 · split <;> omega
theorem likely_le (h s : Int) (hs : s ≤ 65535) (hh : -1 ≤ h) : likely h s ≤ h + 98305 := by
 have hb := aheadZ_bd s h
 unfold likely
 split
 · omega
 · split <;> omega
theorem putY_some : ∀ {ws : List (Nat × List Int)} {x i : Nat} (L : List Int), atW ws x = some i → putY ws x L = ws.set i ((ws.getD i (0, [])).1, L)
 | [], _, _, _, h => nomatch h
 | (n, M) :: l, x, i, L, h => by
   unfold atW at h
   unfold putY
   by_cases e : n = x
   · rw [if_pos e] at h
     injection h with h
     subst h
     rw [if_pos e]
     rfl
   · rw [if_neg e] at h
     rw [if_neg e]
     match hl : atW l x with
     | none => rw [hl] at h; exact nomatch h
     | some j =>
       rw [hl] at h
       simp only [Option.map_some, Option.some.injEq] at h
       subst h
       rw [putY_some L hl]
       simp
theorem putY_none : ∀ {ws : List (Nat × List Int)} {x : Nat} (L : List Int), atW ws x = none → putY ws x L = ws ++ [(x, L)]
 | [], _, _, _ => rfl
 | (n, M) :: l, x, L, h => by
   unfold atW at h
   unfold putY
   by_cases e : n = x
   · rw [if_pos e] at h; exact nomatch h
   · rw [if_neg e] at h
     rw [if_neg e]
     have hl : atW l x = none := by simpa using h
     rw [putY_none L hl]
     rfl
def winW (ws : List (Nat × List Int)) (x : Nat) : List Int := (lookW ws x).getD []
def markW (ws : List (Nat × List Int)) (x : Nat) (i : Int) : List (Nat × List Int) := putY ws x (mkL (winW ws x) i)
theorem winW_some {ws : List (Nat × List Int)} {x i : Nat} (h : atW ws x = some i) : winW ws x = (ws.getD i (0, [])).2 := by unfold winW; rw [(atW_some h).2.2]; rfl
theorem winW_none {ws : List (Nat × List Int)} {x : Nat} (h : atW ws x = none) : winW ws x = [] := by unfold winW; rw [(atW_none h).1]; rfl
theorem highW_win (ws : List (Nat × List Int)) (x : Nat) : highW ws x = hiL (winW ws x) := by
 unfold highW winW
 cases lookW ws x <;> rfl
def pkZ : Pkt := ⟨false, 0, 0, 0, 0, [], false, 0, [], [], 0⟩
noncomputable def codeO (y : Wy) (b : List UInt8) : Int := open Classical in if whyOpen y b ≠ 0 then whyOpen y b else if whyR (plainW y b) ≠ 0 then 3 else 0
noncomputable def idxO (y : Wy) (b : List UInt8) : Int := open Classical in if codeO y b = 0 then idxW y b else 0
noncomputable def pktO (y : Wy) (b : List UInt8) : Pkt := open Classical in if codeO y b = 0 then pktR (plainW y b) else pkZ
noncomputable def yO (y : Wy) (b : List UInt8) : Wy := open Classical in if whyOpen y b = 0 then { y with used := y.used + 1, ws := markW y.ws (soN b) (idxW y b) } else y
theorem whyOpen_peek {y : Wy} {b : List UInt8} (h : whyPeek b ≠ 0) : whyOpen y b = whyPeek b := by unfold whyOpen; rw [if_pos h]
theorem whyOpen_7 {y : Wy} {b : List UInt8} (h : whyPeek b = 0) (h2 : y.limit ≤ y.used) : whyOpen y b = 7 := by unfold whyOpen; rw [if_neg (fun k => k h), if_pos h2]
theorem whyOpen_6 {y : Wy} {b : List UInt8} (h : whyPeek b = 0) (h2 : ¬ y.limit ≤ y.used) (h3 : lookW y.ws (soN b) = none ∧ 8 ≤ y.ws.length) : whyOpen y b = 6 := by unfold whyOpen; rw [if_neg (fun k => k h), if_neg h2, if_pos h3]
theorem whyOpen_3 {y : Wy} {b : List UInt8} (h : whyPeek b = 0) (h2 : ¬ y.limit ≤ y.used) (h3 : ¬ (lookW y.ws (soN b) = none ∧ 8 ≤ y.ws.length)) (h4 : 281474976710656 ≤ idxW y b) : whyOpen y b = 3 := by unfold whyOpen; rw [if_neg (fun k => k h), if_neg h2, if_neg h3, if_pos h4]
theorem whyOpen_5 {y : Wy} {b : List UInt8} (h : whyPeek b = 0) (h2 : ¬ y.limit ≤ y.used) (h3 : ¬ (lookW y.ws (soN b) = none ∧ 8 ≤ y.ws.length)) (h4 : ¬ 281474976710656 ≤ idxW y b) (h5 : ∃ L, lookW y.ws (soN b) = some L ∧ frL L (idxW y b) = false) : whyOpen y b = 5 := by unfold whyOpen; rw [if_neg (fun k => k h), if_neg h2, if_neg h3, if_neg h4, if_pos h5]
theorem whyOpen_4 {y : Wy} {b : List UInt8} (h : whyPeek b = 0) (h2 : ¬ y.limit ≤ y.used) (h3 : ¬ (lookW y.ws (soN b) = none ∧ 8 ≤ y.ws.length)) (h4 : ¬ 281474976710656 ≤ idxW y b) (h5 : ¬ ∃ L, lookW y.ws (soN b) = some L ∧ frL L (idxW y b) = false) (h6 : tagW y (b.take (b.length - 10)) (idxW y b).toNat ≠ b.drop (b.length - 10)) : whyOpen y b = 4 := by unfold whyOpen; rw [if_neg (fun k => k h), if_neg h2, if_neg h3, if_neg h4, if_neg h5, if_pos h6]
theorem whyOpen_0 {y : Wy} {b : List UInt8} (h : whyPeek b = 0) (h2 : ¬ y.limit ≤ y.used) (h3 : ¬ (lookW y.ws (soN b) = none ∧ 8 ≤ y.ws.length)) (h4 : ¬ 281474976710656 ≤ idxW y b) (h5 : ¬ ∃ L, lookW y.ws (soN b) = some L ∧ frL L (idxW y b) = false) (h6 : tagW y (b.take (b.length - 10)) (idxW y b).toNat = b.drop (b.length - 10)) : whyOpen y b = 0 := by unfold whyOpen; rw [if_neg (fun k => k h), if_neg h2, if_neg h3, if_neg h4, if_neg h5, if_neg (fun k => k h6)]
theorem open_zero {y : Wy} {b : List UInt8} (h : whyOpen y b = 0) : whyPeek b = 0 ∧ ¬ y.limit ≤ y.used ∧ ¬ (lookW y.ws (soN b) = none ∧ 8 ≤ y.ws.length) ∧ ¬ 281474976710656 ≤ idxW y b ∧ (¬ ∃ L, lookW y.ws (soN b) = some L ∧ frL L (idxW y b) = false) ∧ tagW y (b.take (b.length - 10)) (idxW y b).toNat = b.drop (b.length - 10) := by
 have a1 : whyPeek b = 0 := by
  by_cases k : whyPeek b = 0
  · exact k
  · exact absurd ((whyOpen_peek k).symm.trans h) k
 have a2 : ¬ y.limit ≤ y.used := fun k => absurd ((whyOpen_7 a1 k).symm.trans h) (by decide)
 have a3 : ¬ (lookW y.ws (soN b) = none ∧ 8 ≤ y.ws.length) := fun k => absurd ((whyOpen_6 a1 a2 k).symm.trans h) (by decide)
 have a4 : ¬ 281474976710656 ≤ idxW y b := fun k => absurd ((whyOpen_3 a1 a2 a3 k).symm.trans h) (by decide)
 have a5 : ¬ ∃ L, lookW y.ws (soN b) = some L ∧ frL L (idxW y b) = false := fun k => absurd ((whyOpen_5 a1 a2 a3 a4 k).symm.trans h) (by decide)
 refine ⟨a1, a2, a3, a4, a5, ?_⟩
 by_cases k : tagW y (b.take (b.length - 10)) (idxW y b).toNat = b.drop (b.length - 10)
 · exact k
 · exact absurd ((whyOpen_4 a1 a2 a3 a4 a5 k).symm.trans h) (by decide)
theorem idxW_ge (y : Wy) (b : List UInt8) : 0 ≤ idxW y b := likely_ge _ _ (by omega)
theorem good_once {y : Wy} (h : y.good) (hu : y.used + 1 ≤ 900) : y.once.good := by
 obtain ⟨⟨h1, h2, h3, h4, h5, h6, h7⟩, h8, h9⟩ := h
 refine ⟨⟨h1, h2, h3, h4, ?_, h6, h7⟩, hu, fun x hx => ⟨?_, (h9 x hx).2⟩⟩
 · show 0 ≤ y.used + 1; omega
 · show (x.2.length : Int) ≤ y.used + 1
   have := (h9 x hx).1
   omega
theorem win_facts {y : Wy} (h : y.good) (x : Nat) : ((winW y.ws x).length : Int) ≤ y.used ∧ ∀ i ∈ winW y.ws x, 0 ≤ i ∧ i < 281474976710656 := by
 match ha : atW y.ws x with
 | none =>
   rw [winW_none ha]
   exact ⟨by have := h.1.2.2.2.2.1; simpa using this, fun i hi => nomatch hi⟩
 | some k =>
   rw [winW_some ha]
   have hk := (atW_some ha).1
   have hm : y.ws.getD k (0, []) ∈ y.ws := by
    have e : y.ws.getD k (0, []) = y.ws[k] := by simp [List.getD, hk]
    rw [e]; exact List.getElem_mem _
   exact h.2.2 _ hm
theorem good_open {y : Wy} (h : y.good) (b : List UInt8) (hu : y.used + 1 ≤ 900) : (yO y b).good := by
 unfold yO
 by_cases hz : whyOpen y b = 0
 case neg => rw [if_neg hz]; exact h
 rw [if_pos hz]
 obtain ⟨a1, a2, a3, a4, a5, a6⟩ := open_zero hz
 obtain ⟨w1, w2⟩ := win_facts h (soN b)
 have hmk : ((mkL (winW y.ws (soN b)) (idxW y b)).length : Int) ≤ y.used + 1 ∧ ∀ i ∈ mkL (winW y.ws (soN b)) (idxW y b), 0 ≤ i ∧ i < 281474976710656 := by
  refine ⟨by have := mk_len (winW y.ws (soN b)) (idxW y b); omega, fun i hi => ?_⟩
  cases hf : frL (winW y.ws (soN b)) (idxW y b)
  · rw [mkL_not hf] at hi; exact w2 i hi
  · rw [mkL_of hf] at hi
    rcases List.mem_append.1 hi with hi | hi
    · exact w2 i hi
    · have : i = idxW y b := by simpa using hi
      rw [this]
      exact ⟨idxW_ge y b, by omega⟩
 obtain ⟨⟨h1, h2, h3, h4, h5, h6, h7⟩, h8, h9⟩ := h
 have hm : ∀ x ∈ markW y.ws (soN b) (idxW y b), (x ∈ y.ws) ∨ (x.1 < 4294967296 ∧ x.2 = mkL (winW y.ws (soN b)) (idxW y b)) := by
  intro x hx
  unfold markW at hx
  match ha : atW y.ws (soN b) with
  | none =>
    rw [putY_none _ ha] at hx
    rcases List.mem_append.1 hx with hx | hx
    · exact .inl hx
    · have : x = (soN b, mkL (winW y.ws (soN b)) (idxW y b)) := by simpa using hx
      rw [this]
      exact .inr ⟨soN_lt b, rfl⟩
  | some k =>
    rw [putY_some _ ha] at hx
    have hk := (atW_some ha).1
    rcases List.mem_or_eq_of_mem_set hx with hx | hx
    · exact .inl hx
    · rw [hx]
      refine .inr ⟨?_, rfl⟩
      show (y.ws.getD k (0, [])).1 < 4294967296
      rw [(atW_some ha).2.1]
      exact soN_lt b
 have hl : (markW y.ws (soN b) (idxW y b)).length ≤ 8 := by
  unfold markW
  match ha : atW y.ws (soN b) with
  | none =>
    rw [putY_none _ ha, List.length_append]
    have : ¬ 8 ≤ y.ws.length := fun k => a3 ⟨(atW_none ha).1, k⟩
    simp only [List.length_singleton]; omega
  | some k => rw [putY_some _ ha, List.length_set]; exact h6
 refine ⟨⟨h1, h2, h3, h4, by show 0 ≤ y.used + 1; omega, hl, fun x hx => ?_⟩, hu, fun x hx => ?_⟩
 · rcases hm x hx with k | k
   · exact h7 x k
   · exact k.1
 · show (x.2.length : Int) ≤ y.used + 1 ∧ _
   rcases hm x hx with k | k
   · have := h9 x k
     exact ⟨by omega, this.2⟩
   · rw [k.2]; exact hmk
end Go.Proofs.YtmkeioeodlidgaaGreatDoor
