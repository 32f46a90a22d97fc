/- Several texts in one: plain words and walks. No statement is proved here. -/
import Derived.Test.YtmkeioeodlidgaaGreatDoorZM0
import Derived.Test.YtmkeioeodlidgaaGreatDoorZM4
import Derived.Test.YtmkeioeodlidgaaGreatDoorZM1
import Derived.Maps.AppendAt
import Derived.Test.YtmkeioeodlidgaaGreatDoorZM3
namespace Go.Proofs.YtmkeioeodlidgaaGreatDoor
open Go.RowKit
set_option linter.unusedVariables false

theorem own_formN {w : World} {base : Nat} {e : TypeId} {sz : Nat} {v : Value} {n : Nat} {xs : List Value} (h : w.ownsRow base e sz v n xs) : ∃ A c, v = .slice A n c := by
 rcases h.2 with ⟨rfl, rfl⟩ | ⟨g, cap, cur, rfl, _⟩
 · exact ⟨none, 0, rfl⟩
 · exact ⟨_, cap, rfl⟩
theorem own_moN {w : World} {base base' n s : Nat} {e : TypeId} {v : Value} {xs : List Value} (h : w.ownsRow base e s v n xs) (hb : base' ≤ base) : w.ownsRow base' e s v n xs := by
 refine ⟨h.1, ?_⟩
 rcases h.2 with h2 | ⟨g, cap, cur, hv, hb2, h3⟩
 · exact .inl h2
 · exact .inr ⟨g, cap, cur, hv, Nat.le_trans hb hb2, h3⟩
theorem own_thN {w w' : World} {base n s : Nat} {e : TypeId} {v : Value} {xs : List Value} (h : w.ownsRow base e s v n xs) {row : Option Nat} (hg : w.grownBy w' row) (hr : ∀ p, row = some p → p < base ∨ ∃ (cur : Array Value) (e' : TypeId) (fz : Nat × Nat), w.heap[p]? = some (.cells cur e' fz) ∧ e ≠ e') : w'.ownsRow base e s v n xs := by
 refine h.kept hg ?_
 rcases hq : v.ownBlock with _ | p
 · exact .inl rfl
 · refine .inr fun hp => ?_
   rcases hr p hp.symm with h1 | ⟨cur, e', fz, h2, h3⟩
   · have := (h.lt p hq).1; omega
   · rcases h.2 with ⟨rfl, _⟩ | ⟨g, cap, cu2, rfl, _, hg2, _⟩
     · simp [Value.ownBlock] at hq
     · simp [Value.ownBlock] at hq
       subst hq
       rw [h2] at hg2
       simp at hg2
       exact h3 hg2.2.1.symm
theorem own_ne {w : World} {base s n p : Nat} {e e' : TypeId} {v : Value} {xs cs : List Value} (h : w.ownsRow base e s v n xs) (hB : BlkV w p e' cs) (hne : e ≠ e') : v.ownBlock ≠ some p := by
 intro hq
 rcases h.2 with ⟨rfl, _⟩ | ⟨g, cap, cur, rfl, _, hg, _⟩
 · simp [Value.ownBlock] at hq
 · simp [Value.ownBlock] at hq
   subst hq
   rw [hB] at hg
   simp at hg
   exact hne hg.2.symm
def RdG (sz : Nat) (w : World) (A : Option Addr) (rows : List (List Value)) : Prop := (∀ r ∈ rows, r.length = sz) ∧ (0 < rows.length → ∃ b off, A = some ⟨b, off, none⟩ ∧ b < w.heap.size ∧ ∀ j, j < rows.length → ∀ d, d < sz → w.cell? ⟨b, off + j * sz + d, none⟩ = (rows.getD j [])[d]?)
theorem RdG.below {sz : Nat} {w w' : World} {A : Option Addr} {rows : List (List Value)} (h : RdG sz w A rows) (hb : Below w.heap.size w w') : RdG sz w' A rows := by
 refine ⟨h.1, fun hn => ?_⟩
 obtain ⟨b, off, hA, hlt, hc⟩ := h.2 hn
 exact ⟨b, off, hA, Nat.lt_of_lt_of_le hlt hb.size, fun j hj d hd => (hb.cell (p := ⟨b, off + j * sz + d, none⟩) hlt).trans (hc j hj d hd)⟩
theorem RdG.at_ {sz : Nat} {w : World} {A : Option Addr} {α : Type} {f : α → List Value} {L : List α} (h : RdG sz w A (L.map f)) {k : Nat} (hk : k < L.length) : ∃ b off, A = some ⟨b, off, none⟩ ∧ ∀ wx, Below w.heap.size w wx → wx.rangeAt b (off + k * sz) (f L[k]) := by
 obtain ⟨b, off, hA, hlt, hc⟩ := h.2 (by simp; omega)
 refine ⟨b, off, hA, fun wx hb d v hv => ?_⟩
 have hr : (L.map f).getD k [] = f L[k] := by simp [List.getD, hk]
 have hd : d < sz := by
  have h1 := h.1 (f L[k]) (List.mem_map.2 ⟨_, List.getElem_mem hk, rfl⟩)
  have := (List.getElem?_eq_some_iff.1 hv).1
  omega
 have := hc k (by simpa using hk) d hd
 rw [hr, hv] at this
 exact (hb.cell (p := ⟨b, off + k * sz + d, none⟩) hlt).trans this
def BO (w0 w : World) (A : Option Addr) (n c : Nat) (bs : List UInt8) : Prop := w.ownsRow w0.heap.size 5 1 (.slice A n c) n (cells bs) ∧ Below w0.heap.size w0 w
theorem BO.nil (w : World) : BO w w none 0 0 [] := ⟨World.ownsRow_nil w _ _ _, Below.refl _ _⟩
theorem BO.rd {w0 w : World} {A : Option Addr} {n c : Nat} {bs : List UInt8} (h : BO w0 w A n c bs) : RdS w A n c bs := RdS.of_own h.1
theorem BO.below {w0 w w' : World} {A : Option Addr} {n c : Nat} {bs : List UInt8} (h : BO w0 w A n c bs) (hb : Below w.heap.size w w') : BO w0 w' A n c bs := ⟨own_thN h.1 (grown_of_below hb none) (fun p hp => by cases hp), h.2.trans (hb.mono h.2.size)⟩
theorem BO.len {w0 w : World} {A : Option Addr} {n c : Nat} {bs : List UInt8} (h : BO w0 w A n c bs) : bs.length = n := h.rd.len
theorem BO.more {w0 w w' : World} {A A' : Option Addr} {n c n' c' : Nat} {bs bs' : List UInt8} (h : BO w0 w A n c bs) (h1 : w'.ownsRow w0.heap.size 5 1 (.slice A' n' c') n' (cells bs')) (hg : w.grownBy w' (Value.slice A n c).ownBlock) : BO w0 w' A' n' c' bs' :=
 ⟨h1, h.2.grown hg h.2.size (fun p hp => (h.1.lt p hp).1)⟩
theorem flat_row {α : Type} (f : α → List Value) (sz : Nat) : ∀ (L : List α) (j d : Nat), (∀ x ∈ L, (f x).length = sz) → d < sz → (L.flatMap f)[j * sz + d]? = ((L.map f).getD j [])[d]?
 | [], j, d, _, _ => by simp [List.getD]
 | a :: r, 0, d, h, hd => by
   have h1 := h a (by simp)
   simp only [List.flatMap_cons, Nat.zero_mul, Nat.zero_add, List.map_cons, List.getD_cons_zero]
   rw [List.getElem?_append_left (by omega)]
 | a :: r, j + 1, d, h, hd => by
   have h1 := h a (by simp)
   have ih := flat_row f sz r j d (fun x hx => h x (by simp [hx])) hd
   simp only [List.flatMap_cons, List.map_cons, List.getD_cons_succ]
   rw [List.getElem?_append_right (by rw [h1, Nat.succ_mul]; omega), ← ih, h1]
   congr 1
   rw [Nat.succ_mul]; omega
theorem RdG.of_own {w : World} {base n c sz : Nat} {e : TypeId} {A : Option Addr} {α : Type} {f : α → List Value} {L : List α} (h : w.ownsRow base e sz (.slice A n c) n (L.flatMap f)) (hn : L.length = n) (hf : ∀ x ∈ L, (f x).length = sz) : RdG sz w A (L.map f) := by
 refine ⟨fun r hr => by obtain ⟨x, hx, rfl⟩ := List.mem_map.1 hr; exact hf x hx, fun hp => ?_⟩
 rw [List.length_map, hn] at hp
 rcases h.2 with ⟨_, h0⟩ | ⟨g, cap, cur, hv, hb, hg, _⟩
 · omega
 · injection hv with h1 h2 h3
   subst h1; subst h3
   refine ⟨g, 0, rfl, (Array.getElem?_eq_some_iff.1 hg).1, fun j hj d hd => ?_⟩
   rw [List.length_map, hn] at hj
   rw [Nat.zero_add, ← flat_row f sz L j d hf hd]
   refine h.cellAt (j * sz + d) ?_
   have : (j + 1) * sz ≤ n * sz := Nat.mul_le_mul_right sz hj
   rw [Nat.succ_mul] at this
   omega
theorem size_alloc (w : World) (o : Obj) : w.heap.size + 1 = (w.alloc o).heap.size := by show _ = (w.heap.push o).size; simp
theorem own_blockN {w : World} {base s : Nat} {e : TypeId} {A : Option Addr} {n c : Nat} {xs : List Value} (h : w.ownsRow base e s (.slice A n c) n xs) (hn : 0 < n) : ∃ g, A = some ⟨g, 0, none⟩ ∧ base ≤ g := by
 rcases h.2 with ⟨_, h0⟩ | ⟨g, cap, cur, hv, hb, _⟩
 · omega
 · injection hv with h1 _ _
   exact ⟨g, h1, hb⟩
theorem rput_bo (w0 W : World) (A : Option Addr) (n c N : Nat) (bs : List UInt8) (m x : Nat) (mi xi : Int) (hmi : mi = m) (hxi : xi = x) (hN : N = n + m) (hb : Below w0.heap.size w0 W) (hr : RdS W A n c bs) (h1 : 1 ≤ m) (h8 : m ≤ 8) (hx : x < 18446744073709551616) (hs : n ≤ 1000000) :
 Calls Tryz.prog 42 #[.slice A n c, .int .i64 mi, .int .u64 xi] W fun e w' => ∃ A' c', e = .returned (.slice A' N c') ∧ BO w0 w' A' N c' (bs ++ beb m x) ∧ Below W.heap.size W w' := by
 subst hmi; subst hxi; subst hN
 refine (rput_some A n c bs m x W hr h1 h8 hx (by omega)).mono ?_
 rintro e w' ⟨v, rfl, ho, hb1⟩
 have hL : (bs ++ beb m x).length = n + m := by rw [List.length_append, hr.len, length_beb]
 rw [hL] at ho
 obtain ⟨A', c', rfl⟩ := own_formN ho
 exact ⟨A', c', rfl, ⟨own_moN ho hb.size, hb.trans (hb1.mono hb.size)⟩, hb1⟩
theorem ret_row3 {P : Program} {fn : Func} {R : Ending → World → Prop} {a : Act} {w : World} {p u v : Tmp} {ty e : TypeId} {g : Nat} {cs : List Value} (h : fn.results = #[.cell p ty, .tmp u, .tmp v]) (hp : a.tmps.getD p undef = .pointer (some ⟨g, 0, none⟩))
 (hB : BlkV w g e cs) (hT : RowTy P ty cs.length) (hd : a.defers = []) (hR : R (.returned (.tuple #[.agg cs.toArray, a.tmps.getD u undef, a.tmps.getD v undef])) w) : bodyPost P fn R .ret a w := by
 obtain ⟨d, h1, h2, h3⟩ := hT
 refine bodyPost_ret (v := .tuple #[.agg cs.toArray, a.tmps.getD u undef, a.tmps.getD v undef]) ?_ hd hR
 have hp' : a.tmps[p]?.getD undef = .pointer (some ⟨g, 0, none⟩) := by simpa using hp
 simp [results, h, hp', asAddr, run_loadVar_row w g e ty cs.toArray (0, 0) d hB h1 (by cases d <;> simp_all) (by simpa using h3)]
theorem twoBelow (w : World) (o o2 : Obj) : Below w.heap.size w ((w.alloc o).alloc o2) := ((Below.refl _ _).alloc (Nat.le_refl _) _).alloc (by show _ ≤ (w.heap.push o).size; simp) _
theorem words_lt (bs : List UInt8) : wordsN bs < 65536 := Nat.lt_of_lt_of_le (numb_lt _) (Nat.le_trans (Nat.pow_le_pow_right (n := 256) (by omega) (show ((bs.drop (at0 bs + 2)).take 2).length ≤ 2 by simp; omega)) (by decide))
set_option maxRecDepth 100000 in
set_option maxHeartbeats 1000000 in
theorem rhead15_any (A : Option Addr) (n c : Nat) (bs : List UInt8) (m : Nat) (mi : Int) (hmi : mi = m) (w : World) (hr : RdS w A n c bs) (h1 : 1 ≤ n) (hn : n ≤ 100000) (hm : m ≤ n) :
 Calls Tryz.prog 28 #[.slice A n c, .int .i64 mi] w fun e w' => (∃ h : Int, e = .returned (.tuple #[.int .i64 h, .bool (decide (at1 bs ≤ m))]) ∧ (at1 bs ≤ m → h = (at1 bs : Nat))) ∧ w = w' := by
 subst hmi
 have hl := hr.len
 have hs := hr.small
 obtain ⟨b, off, rfl, hlt, hcs⟩ := hr.2.2.2.2 (by omega)
 have c0 := hcs 0 (by omega)
 rw [Nat.add_zero] at c0
 obtain ⟨x0, hx⟩ : ∃ x0, x0 = (bs.getD 0 0).toNat := ⟨_, rfl⟩
 have hx2 : x0 < 256 := by rw [hx]; exact UInt8.toNat_lt _
 rw [← hx] at c0
 have hbt : bt bs 0 = x0 := hx.symm
 obtain ⟨H0, hH0⟩ : ∃ H0, H0 = at0 bs := ⟨_, rfl⟩
 have hH : H0 = 12 + 4 * (x0 % 16) := by rw [hH0]; unfold at0 othN; rw [hbt]
 have m1 : Int.tmod (x0 : Int) 16 = ((x0 % 16 : Nat) : Int) := by rw [Int.tmod_eq_emod_of_nonneg (by omega)]; omega
 have q1 : Int.tdiv (x0 : Int) 16 = ((x0 / 16 : Nat) : Int) := by rw [Int.tdiv_eq_ediv_of_nonneg (by omega)]; omega
 have m2 : Int.tmod (((x0 / 16 : Nat) : Int)) 2 = ((x0 / 16 % 2 : Nat) : Int) := by rw [Int.tmod_eq_emod_of_nonneg (by omega)]; omega
 have hx16 : (12 : Int) + 4 * ((x0 % 16 : Nat) : Int) = (H0 : Int) := by omega
 have hH9 : H0 ≤ 72 := by omega
 cases hex : exBR bs with
 | false =>
   have he : ((((x0 / 16 % 2 : Nat) : Int)) == 1) = false := by
    have := hex; unfold exBR at this; rw [hbt] at this
    simp at this ⊢; omega
   have ha : at1 bs = H0 := by unfold at1; rw [hex, hH0]; rfl
   rw [ha]
   clear hr hcs hx hbt hH0 hex ha hH
   obtain ⟨y1, hy1⟩ : ∃ y, y = x0 % 16 := ⟨_, rfl⟩
   obtain ⟨y2, hy2⟩ : ∃ y, y = x0 / 16 := ⟨_, rfl⟩
   obtain ⟨y3, hy3⟩ : ∃ y, y = x0 / 16 % 2 := ⟨_, rfl⟩
   rw [← hy1] at m1 hx16
   rw [← hy3] at m2 he
   rw [← hy2] at q1 m2
   have l1 : y1 < 16 := by omega
   have l2 : y2 < 16 := by omega
   clear hy1 hy2 hy3
   go_enter Tryz.func28, Tryz.ntmps28
   go_wp2
   go_ret2
   exact ⟨⟨_, rfl, fun _ => rfl⟩, rfl⟩
 | true =>
   have he : ((((x0 / 16 % 2 : Nat) : Int)) == 1) = true := by
    have := hex; unfold exBR at this; rw [hbt] at this
    simp at this ⊢; omega
   have ha : at1 bs = H0 + 4 + 4 * wordsN bs := by unfold at1; rw [hex, hH0]; rfl
   have hw9 := words_lt bs
   obtain ⟨V, hV⟩ : ∃ V, V = wordsN bs := ⟨_, rfl⟩
   rw [← hV] at ha hw9
   rw [ha]
   by_cases hsh : (m : Int) < (H0 : Int) + 4
   · have hd : decide (H0 + 4 + 4 * V ≤ m) = false := decide_eq_false (by omega)
     have hnot : ¬ H0 + 4 + 4 * V ≤ m := by omega
     rw [hd]
     have HNOT := Lib.hid hnot
     clear hr hcs hx hbt hH0 hex ha hH hd hnot hV hw9
     obtain ⟨y1, hy1⟩ : ∃ y, y = x0 % 16 := ⟨_, rfl⟩
     obtain ⟨y2, hy2⟩ : ∃ y, y = x0 / 16 := ⟨_, rfl⟩
     obtain ⟨y3, hy3⟩ : ∃ y, y = x0 / 16 % 2 := ⟨_, rfl⟩
     rw [← hy1] at m1 hx16
     rw [← hy3] at m2 he
     rw [← hy2] at q1 m2
     have l1 : y1 < 16 := by omega
     have l2 : y2 < 16 := by omega
     clear hy1 hy2 hy3
     go_enter Tryz.func28, Tryz.ntmps28
     go_wp2
     go_ret2
     exact ⟨⟨_, rfl, fun h => absurd h HNOT.out⟩, rfl⟩
   · have HNU : Hid (Calls Tryz.prog 56 #[.slice (some ⟨b, off, none⟩) n c, .int .i64 ((H0 : Int) + 2), .int .i64 2] w fun e w' => e = .returned (.int .u64 (V : Int)) ∧ w = w') := Lib.hid (by
      have := rnum_yes (some ⟨b, off, none⟩) n c bs (H0 + 2) 2 w hr (by omega) (by omega) (by omega)
      rw [show ((H0 + 2 : Nat) : Int) = (H0 : Int) + 2 by omega, hH0] at this
      rw [hV, hH0]
      exact this)
     have eV : IntKind.i64.wrap (V : Int) = (V : Int) := by rw [IntKind.wrap_i64]; omega
     obtain ⟨H1, hH1⟩ : ∃ H1, H1 = H0 + 4 + 4 * V := ⟨_, rfl⟩
     have eH1 : (H0 : Int) + 4 + 4 * (V : Int) = (H1 : Int) := by omega
     have hH9' : H1 ≤ 400000 := by omega
     rw [← hH1]
     clear hr hcs hx hbt hH0 hex ha hH hV hH1
     obtain ⟨y1, hy1⟩ : ∃ y, y = x0 % 16 := ⟨_, rfl⟩
     obtain ⟨y2, hy2⟩ : ∃ y, y = x0 / 16 := ⟨_, rfl⟩
     obtain ⟨y3, hy3⟩ : ∃ y, y = x0 / 16 % 2 := ⟨_, rfl⟩
     rw [← hy1] at m1 hx16
     rw [← hy3] at m2 he
     rw [← hy2] at q1 m2
     have l1 : y1 < 16 := by omega
     have l2 : y2 < 16 := by omega
     clear hy1 hy2 hy3
     go_enter Tryz.func28, Tryz.ntmps28
     go_wp2_with (go_at_call 56; ((with_reducible refine (Hid.out HNU).mono ?_); rintro e w' ⟨rfl, rfl⟩))
     go_ret2
     exact ⟨⟨_, rfl, fun _ => rfl⟩, rfl⟩
def P15 (bs : List UInt8) (w : World) (e : Ending) (w' : World) : Prop :=
 (whyPeek bs = 0 → e = .returned (.tuple #[.int .u32 (soN bs : Int), .int .u16 (sqN bs : Int), .int .i64 0])) ∧ (whyPeek bs ≠ 0 → e = .returned (.tuple #[.int .u32 0, .int .u16 0, .int .i64 (whyPeek bs)])) ∧ Below w.heap.size w w'
theorem P15.no {bs : List UInt8} {w : World} {q : Int} (h : whyPeek bs = q) (hq : q ≠ 0) : P15 bs w (.returned (.tuple #[.int .u32 0, .int .u16 0, .int .i64 q])) w := ⟨fun h2 => absurd (h.symm.trans h2) hq, fun _ => by rw [h], Below.refl _ _⟩
set_option maxRecDepth 100000 in
set_option maxHeartbeats 1000000 in
theorem rpeek15_any (A : Option Addr) (n c : Nat) (bs : List UInt8) (w : World) (hr : RdS w A n c bs) : Calls Tryz.prog 34 #[.slice A n c] w (P15 bs w) := by
 have hl := hr.len
 have hs := hr.small
 by_cases h12 : (1200 : Int) < (n : Int)
 · have HW := Lib.hid (P15.no (bs := bs) (w := w) (q := 3) (by unfold whyPeek; rw [if_pos (by omega)]) (by decide))
   clear hr hl
   go_enter Tryz.func34, Tryz.ntmps34
   go_wp2
   go_ret3
   exact HW.out
 by_cases h22 : (n : Int) < 22
 · have HW := Lib.hid (P15.no (bs := bs) (w := w) (q := 2) (by unfold whyPeek; rw [if_neg (by omega), if_pos (by omega)]) (by decide))
   clear hr hl
   go_enter Tryz.func34, Tryz.ntmps34
   go_wp2
   go_ret3
   exact HW.out
 obtain ⟨b, off, rfl, hlt, hcs⟩ := hr.2.2.2.2 (by omega)
 have c0 := hcs 0 (by omega)
 rw [Nat.add_zero] at c0
 have HHD0 := Lib.hid (rhead15_any (some ⟨b, off, none⟩) n c bs (n - 10) ((n : Int) - 10) (by omega) w hr (by omega) (by omega) (by omega))
 have HN1 : Hid (Calls Tryz.prog 56 #[.slice (some ⟨b, off, none⟩) n c, .int .i64 8, .int .i64 4] w fun e w' => e = .returned (.int .u64 (soN bs : Int)) ∧ w = w') := Lib.hid (rnum_yes (some ⟨b, off, none⟩) n c bs 8 4 w hr (by omega) (by omega) (by omega))
 have HN2 : Hid (Calls Tryz.prog 56 #[.slice (some ⟨b, off, none⟩) n c, .int .i64 2, .int .i64 2] w fun e w' => e = .returned (.int .u64 (sqN bs : Int)) ∧ w = w') := Lib.hid (rnum_yes (some ⟨b, off, none⟩) n c bs 2 2 w hr (by omega) (by omega) (by omega))
 obtain ⟨x0, hx⟩ : ∃ x0, x0 = (bs.getD 0 0).toNat := ⟨_, rfl⟩
 have hx2 : x0 < 256 := by rw [hx]; exact UInt8.toNat_lt _
 rw [← hx] at c0
 have hbt : bt bs 0 = x0 := hx.symm
 obtain ⟨y, hy⟩ : ∃ y, y = x0 / 64 := ⟨_, rfl⟩
 have q1 : Int.tdiv (x0 : Int) 64 = (y : Int) := by rw [Int.tdiv_eq_ediv_of_nonneg (by omega)]; omega
 have ly : y < 4 := by omega
 by_cases h2 : y = 2
 case neg =>
  have h2i : ((y : Int) != 2) = true := by simp; omega
  have HW := Lib.hid (P15.no (bs := bs) (w := w) (q := 3) (by unfold whyPeek; rw [if_neg (by omega), if_neg (by omega), if_pos (by rw [hbt]; omega)]) (by decide))
  clear hr hl hcs hx hbt hy h2
  go_enter Tryz.func34, Tryz.ntmps34
  go_wp2
  go_ret3
  exact HW.out
 have h2i : ((y : Int) != 2) = false := by simp; omega
 have hso : soN bs < 4294967296 := Nat.lt_of_lt_of_le (numb_lt _) (Nat.le_trans (Nat.pow_le_pow_right (n := 256) (by omega) (show ((bs.drop 8).take 4).length ≤ 4 by simp; omega)) (by decide))
 have hsq : sqN bs < 65536 := Nat.lt_of_lt_of_le (numb_lt _) (Nat.le_trans (Nat.pow_le_pow_right (n := 256) (by omega) (show ((bs.drop 2).take 2).length ≤ 2 by simp; omega)) (by decide))
 obtain ⟨SO, hSO⟩ : ∃ SO, SO = soN bs := ⟨_, rfl⟩
 obtain ⟨SQ, hSQ⟩ : ∃ SQ, SQ = sqN bs := ⟨_, rfl⟩
 rw [← hSO] at hso HN1
 rw [← hSQ] at hsq HN2
 have e1 : IntKind.u32.wrap (SO : Int) = (SO : Int) := by rw [IntKind.wrap_u32]; omega
 have e2 : IntKind.u16.wrap (SQ : Int) = (SQ : Int) := by rw [IntKind.wrap_u16]; omega
 by_cases hat : at1 bs ≤ n - 10
 · have HW : Hid (P15 bs w (.returned (.tuple #[.int .u32 (SO : Int), .int .u16 (SQ : Int), .int .i64 0])) w) := Lib.hid (by
    have : whyPeek bs = 0 := by unfold whyPeek; rw [if_neg (by omega), if_neg (by omega), if_neg (by rw [hbt]; omega), if_neg (by omega)]
    exact ⟨fun _ => by rw [hSO, hSQ], fun h => absurd this h, Below.refl _ _⟩)
   have HHD : Hid (Calls Tryz.prog 28 #[.slice (some ⟨b, off, none⟩) n c, .int .i64 ((n : Int) - 10)] w fun e w' => ∃ h : Int, e = .returned (.tuple #[.int .i64 h, .bool true]) ∧ w = w') := Lib.hid (HHD0.out.mono fun e w' ⟨⟨h, h1, _⟩, h3⟩ => ⟨h, by rw [h1, decide_eq_true hat], h3⟩)
   clear hr hl hcs hx hbt hy h2 hSO hSQ hat
   go_enter Tryz.func34, Tryz.ntmps34
   go_wp2_with (first
    | (go_at_call 28; ((with_reducible refine (Hid.out HHD).mono ?_); rintro e w' ⟨h, rfl, rfl⟩))
    | (go_at_call 56; ((with_reducible refine (Hid.out HN1).mono ?_); rintro e w' ⟨rfl, rfl⟩))
    | (go_at_call 56; ((with_reducible refine (Hid.out HN2).mono ?_); rintro e w' ⟨rfl, rfl⟩)))
   go_ret3
   exact HW.out
 · have HW := Lib.hid (P15.no (bs := bs) (w := w) (q := 2) (by unfold whyPeek; rw [if_neg (by omega), if_neg (by omega), if_neg (by rw [hbt]; omega), if_pos (by omega)]) (by decide))
   have HHD : Hid (Calls Tryz.prog 28 #[.slice (some ⟨b, off, none⟩) n c, .int .i64 ((n : Int) - 10)] w fun e w' => ∃ h : Int, e = .returned (.tuple #[.int .i64 h, .bool false]) ∧ w = w') := Lib.hid (HHD0.out.mono fun e w' ⟨⟨h, h1, _⟩, h3⟩ => ⟨h, by rw [h1, decide_eq_false hat], h3⟩)
   clear hr hl hcs hx hbt hy h2 hSO hSQ hat
   go_enter Tryz.func34, Tryz.ntmps34
   go_wp2_with (go_at_call 28; ((with_reducible refine (Hid.out HHD).mono ?_); rintro e w' ⟨h, rfl, rfl⟩))
   go_ret3
   exact HW.out
end Go.Proofs.YtmkeioeodlidgaaGreatDoor

namespace Go.Proofs.YtmkeioeodlidgaaGreatDoor
set_option linter.unusedVariables false

def mst (key salt : List UInt8) : List UInt8 := key ++ salt
theorem mst_len (key salt : List UInt8) (hk : key.length = 16) (hs : salt.length = 14) : (mst key salt).length = 30 := by simp [mst, hk, hs]
theorem mst_key (key salt : List UInt8) (hk : key.length = 16) : ∀ i, i < (cells key).length → (cells (mst key salt))[0 + i]? = (cells key)[i]? := fun i hi => by
 rw [mst, cells_append, Nat.zero_add, List.getElem?_append_left hi]
theorem mst_salt (key salt : List UInt8) (hk : key.length = 16) : ∀ i, i < (cells salt).length → (cells (mst key salt))[16 + i]? = (cells salt)[i]? := fun i hi => by
 rw [mst, cells_append, List.getElem?_append_right (by rw [length_cells]; omega), length_cells, hk, show 16 + i - 16 = i by omega]
theorem Blk.rdAt {w : World} {g : Nat} {e : TypeId} {bs xs : List UInt8} (h : Blk w g e bs) (o n c : Nat) (hn : xs.length = n) (hnc : n ≤ c) (hc : c ≤ maxLen) (hd : ∀ i, i < (cells xs).length → (cells bs)[o + i]? = (cells xs)[i]?) : RdS w (some ⟨g, o, none⟩) n c xs :=
 ⟨hn, hnc, hc, fun h => by simp at h, fun _ => ⟨g, o, rfl, h.lt, fun j hj => by
  rw [h.v.cell, hd j (by rw [length_cells]; omega)]
  exact cells_at (by omega)⟩⟩

def labC (salt : List UInt8) (l : Nat) : List UInt8 := (saltZ salt).set 7 ((saltZ salt).getD 7 0 ^^^ UInt8.ofNat l)
theorem labC_len (salt : List UInt8) (l : Nat) (hs : salt.length = 14) : (labC salt l).length = 16 := by rw [labC, List.length_set, saltZ_len _ hs]
def drv (key salt : List UInt8) (l n : Nat) : List UInt8 := strm key (labC salt l) n
theorem drv_len (key salt : List UInt8) (l n : Nat) : (drv key salt l n).length = n := strm_len _ _ _
theorem cells_splice (s d : List UInt8) (o : Nat) : splice (cells s) o (cells d) = cells (splice s o d) := by
 simp [splice, cells, List.map_take, List.map_drop]
theorem splice_len {α : Type} (s d : List α) (o : Nat) (h : o + d.length ≤ s.length) : (splice s o d).length = s.length := by
 simp [splice]; omega
def trio (a b c : List UInt8) : List UInt8 := a ++ (b ++ c)
theorem trio_len (a b c : List UInt8) (ha : a.length = 16) (hb : b.length = 20) (hc : c.length = 14) : (trio a b c).length = 50 := by simp [trio, ha, hb, hc]
def Z50 : List UInt8 := List.replicate 50 0
theorem Z50_len : Z50.length = 50 := by rw [Z50, List.length_replicate]
theorem trio1 (a : List UInt8) (ha : a.length = 16) : splice Z50 0 a = a ++ List.replicate 34 0 := by simp [splice, Z50, ha]
theorem trio2 (a b : List UInt8) (ha : a.length = 16) (hb : b.length = 20) : splice (splice Z50 0 a) 16 b = a ++ (b ++ List.replicate 14 0) := by
 rw [trio1 a ha, splice, List.take_left' ha, hb, List.drop_append, ha]
 simp
 omega
theorem trio3 (a b c : List UInt8) (ha : a.length = 16) (hb : b.length = 20) (hc : c.length = 14) : splice (splice (splice Z50 0 a) 16 b) 36 c = trio a b c := by
 have h : (a ++ b).length = 36 := by simp [ha, hb]
 rw [trio2 a b ha hb, ← List.append_assoc, splice, List.take_left' h, hc, trio, List.drop_of_length_le (by simp [ha, hb]), List.append_nil, List.append_assoc]
def kys (key salt : List UInt8) (f : Nat) : List UInt8 := trio (drv key salt f 16) (drv key salt (f + 1) 20) (drv key salt (f + 2) 14)
theorem kys_len (key salt : List UInt8) (f : Nat) : (kys key salt f).length = 50 := trio_len _ _ _ (drv_len _ _ _ _) (drv_len _ _ _ _) (drv_len _ _ _ _)

def trioR (a b c : List UInt8) (x y z : Nat) : List UInt8 := tab 50 fun j =>
 if j < 16 then (if j < x then a.getD j 0 else 0) else if j < 36 then (if j < 16 + y then b.getD (j - 16) 0 else 0) else (if j < 36 + z then c.getD (j - 36) 0 else 0)
theorem trioR_len (a b c : List UInt8) (x y z : Nat) : (trioR a b c x y z).length = 50 := tab_len _ _
theorem trioR_zero (a b c : List UInt8) : trioR a b c 0 0 0 = Z50 := by
 apply list_eq (n := 50) (trioR_len _ _ _ _ _ _) Z50_len
 intro i hi
 rw [trioR, tab_get _ _ _ hi, Z50]
 have h0 : ∀ (n j : Nat), (List.replicate n (0 : UInt8)).getD j 0 = 0 := fun n j => by
  simp only [List.getD, List.getElem?_replicate]
  split <;> rfl
 rw [h0]
 by_cases h1 : i < 16
 · rw [if_pos h1, if_neg (by omega)]
 · rw [if_neg h1]
   by_cases h2 : i < 36
   · rw [if_pos h2, if_neg (by omega)]
   · rw [if_neg h2, if_neg (by omega)]
theorem getD_setU (l : List UInt8) (k i : Nat) (v : UInt8) (hk : k < l.length) : (l.set k v).getD i 0 = if i = k then v else l.getD i 0 := by
 simp only [List.getD, List.getElem?_set]
 by_cases h : i = k
 · subst h; simp [hk]
 · rw [if_neg (fun e => h e.symm), if_neg h]
theorem trioR_x (a b c : List UInt8) (x y z : Nat) (hx : x < 16) : (trioR a b c x y z).set x (a.getD x 0) = trioR a b c (x + 1) y z := by
 apply list_eq (n := 50) (by rw [List.length_set, trioR_len]) (trioR_len _ _ _ _ _ _)
 intro i hi
 rw [getD_setU _ _ _ _ (by rw [trioR_len]; omega), trioR, trioR, tab_get _ _ _ hi, tab_get _ _ _ hi]
 by_cases h : i = x
 · subst h
   rw [if_pos rfl, if_pos hx, if_pos (by omega)]
 · rw [if_neg h]
   by_cases h1 : i < 16
   · rw [if_pos h1, if_pos h1]
     by_cases h2 : i < x
     · rw [if_pos h2, if_pos (by omega)]
     · rw [if_neg h2, if_neg (by omega)]
   · rw [if_neg h1, if_neg h1]
theorem trioR_y (a b c : List UInt8) (x y z : Nat) (hy : y < 20) : (trioR a b c x y z).set (16 + y) (b.getD y 0) = trioR a b c x (y + 1) z := by
 apply list_eq (n := 50) (by rw [List.length_set, trioR_len]) (trioR_len _ _ _ _ _ _)
 intro i hi
 rw [getD_setU _ _ _ _ (by rw [trioR_len]; omega), trioR, trioR, tab_get _ _ _ hi, tab_get _ _ _ hi]
 by_cases h : i = 16 + y
 · subst h
   rw [if_pos rfl, if_neg (by omega), if_pos (by omega), if_pos (by omega), show 16 + y - 16 = y by omega]
 · rw [if_neg h]
   by_cases h1 : i < 16
   · rw [if_pos h1, if_pos h1]
   · rw [if_neg h1, if_neg h1]
     by_cases h3 : i < 36
     · rw [if_pos h3, if_pos h3]
       by_cases h2 : i < 16 + y
       · rw [if_pos h2, if_pos (by omega)]
       · rw [if_neg h2, if_neg (by omega)]
     · rw [if_neg h3, if_neg h3]
theorem trioR_z (a b c : List UInt8) (x y z : Nat) (hz : z < 14) : (trioR a b c x y z).set (36 + z) (c.getD z 0) = trioR a b c x y (z + 1) := by
 apply list_eq (n := 50) (by rw [List.length_set, trioR_len]) (trioR_len _ _ _ _ _ _)
 intro i hi
 rw [getD_setU _ _ _ _ (by rw [trioR_len]; omega), trioR, trioR, tab_get _ _ _ hi, tab_get _ _ _ hi]
 by_cases h : i = 36 + z
 · subst h
   rw [if_pos rfl, if_neg (by omega), if_neg (by omega), if_pos (by omega), show 36 + z - 36 = z by omega]
 · rw [if_neg h]
   by_cases h1 : i < 16
   · rw [if_pos h1, if_pos h1]
   · rw [if_neg h1, if_neg h1]
     by_cases h3 : i < 36
     · rw [if_pos h3, if_pos h3]
     · rw [if_neg h3, if_neg h3]
       by_cases h2 : i < 36 + z
       · rw [if_pos h2, if_pos (by omega)]
       · rw [if_neg h2, if_neg (by omega)]
theorem trioR_all (a b c : List UInt8) (ha : a.length = 16) (hb : b.length = 20) (hc : c.length = 14) : trioR a b c 16 20 14 = trio a b c := by
 apply list_eq (n := 50) (trioR_len _ _ _ _ _ _) (trio_len _ _ _ ha hb hc)
 intro i hi
 rw [trioR, tab_get _ _ _ hi, trio]
 by_cases h1 : i < 16
 · rw [if_pos h1, if_pos h1, getD_app_left _ _ _ (by omega)]
 · rw [if_neg h1, getD_app_right _ _ _ (by omega), ha]
   by_cases h3 : i < 36
   · rw [if_pos h3, if_pos (by omega), getD_app_left _ _ _ (by omega)]
   · rw [if_neg h3, if_pos (by omega), getD_app_right _ _ _ (by omega), hb, show i - 16 - 20 = i - 36 by omega]

theorem strm_below (key c : List UInt8) (n : Nat) (hc : c.length = 16) (hn : n ≤ 16) : strm key c n = (enc (kall key) c).take n := by
 apply list_eq (n := n)
 · exact strm_len _ _ _
 · rw [List.length_take, enc_len]; omega
 · intro i hi
   rw [strm, tab_get _ _ _ hi, ksB, show i / 16 = 0 by omega, show i % 16 = i by omega, plusC_zero _ hc]
   simp [List.getD, hi]
end Go.Proofs.YtmkeioeodlidgaaGreatDoor
