/- Several texts in one: Plain mathematics of layer 4: a key's block, and the tag of a message by a key, of lists of bytes, as the document defines them. No program is named; no statement is proved here. Plain words on layer 8: which indices were there, as a list; a window of them, as bits of a number; how many bits of a number are set. Names no program. No statement is proved here. -/
import Derived.Test.YtmkeioeodlidgaaDoorZM3
import Derived.WalkKit
namespace Go.Proofs.YtmkeioeodlidgaaDoor

/-- Each byte's exclusive or with x. -/
def xorB (x : UInt8) (bs : List UInt8) : List UInt8 := bs.map fun b => b ^^^ x
theorem xorB_len (x : UInt8) (bs : List UInt8) : (xorB x bs).length = bs.length := by simp [xorB]
theorem xorB_take (x : UInt8) (bs : List UInt8) (k : Nat) (h : k < bs.length) : xorB x (bs.take (k + 1)) = xorB x (bs.take k) ++ [bs.getD k 0 ^^^ x] := by
  rw [List.take_succ_eq_append_getElem h, xorB, xorB, List.map_append]
  simp only [List.map_cons, List.map_nil, List.getD, List.getElem?_eq_getElem h, Option.getD_some]
/-- The bytes that a loop has turned, and those that it has not. -/
def turnAt (x : UInt8) (bs : List UInt8) (k : Nat) : List UInt8 := xorB x (bs.take k) ++ bs.drop k
theorem turnAt_len (x : UInt8) (bs : List UInt8) (k : Nat) (h : k ≤ bs.length) : (turnAt x bs k).length = bs.length := by simp [turnAt, xorB_len]; omega
theorem turnAt_zero (x : UInt8) (bs : List UInt8) : turnAt x bs 0 = bs := by simp [turnAt, xorB]
theorem turnAt_all (x : UInt8) (bs : List UInt8) (k : Nat) (h : bs.length ≤ k) : turnAt x bs k = xorB x bs := by simp [turnAt, List.take_of_length_le h, List.drop_of_length_le h]
theorem turnAt_get (x : UInt8) (bs : List UInt8) (k : Nat) (h : k < bs.length) : (turnAt x bs k).getD k 0 = bs.getD k 0 := by
  have e : (xorB x (bs.take k)).length = k := by rw [xorB_len, List.length_take]; omega
  unfold turnAt
  simp [List.getD, List.getElem?_append, e]
theorem turnAt_step (x : UInt8) (bs : List UInt8) (k : Nat) (h : k < bs.length) : (turnAt x bs k).set k (bs.getD k 0 ^^^ x) = turnAt x bs (k + 1) := by
  have e : (xorB x (bs.take k)).length = k := by rw [xorB_len, List.length_take]; omega
  unfold turnAt
  rw [List.set_append_right _ _ (by omega), e, Nat.sub_self, List.drop_eq_getElem_cons h, List.set_cons_zero, xorB_take x bs k h, List.append_assoc]
  rfl

/-- Bytes with zeros behind, up to 64. -/
def padTo (k : List UInt8) : List UInt8 := k ++ List.replicate (64 - k.length) 0
theorem padTo_len (k : List UInt8) (h : k.length ≤ 64) : (padTo k).length = 64 := by simp [padTo]; omega
/-- What stands for a key: its bytes, or its sum. -/
def keyS (key : List UInt8) : List UInt8 := if 64 < key.length then shaSum key else key
theorem keyS_le (key : List UInt8) : (keyS key).length ≤ 64 := by
  unfold keyS
  split
  · rw [shaSum_len]; omega
  · omega
theorem keyS_long {key : List UInt8} (h : 64 < key.length) : keyS key = shaSum key := by simp [keyS, h]
theorem keyS_short {key : List UInt8} (h : ¬ 64 < key.length) : keyS key = key := by simp [keyS, h]
/-- A key's block. -/
def keyB (key : List UInt8) : List UInt8 := padTo (keyS key)
theorem keyB_len (key : List UInt8) : (keyB key).length = 64 := padTo_len _ (keyS_le key)
/-- The sum ahead, and the tag. -/
def inSum (key m : List UInt8) : List UInt8 := shaSum (xorB 54 (keyB key) ++ m)
def macFull (key m : List UInt8) : List UInt8 := shaSum (xorB 92 (keyB key) ++ inSum key m)
theorem inSum_len (key m : List UInt8) : (inSum key m).length = 20 := shaSum_len _
theorem macFull_len (key m : List UInt8) : (macFull key m).length = 20 := shaSum_len _
/-- The document's example. -/
def exKey : List UInt8 := [74, 101, 102, 101]
def exA : List UInt8 := [119, 104, 97, 116, 32, 100, 111, 32, 121, 97, 32, 119, 97, 110, 116, 32]
def exBM : List UInt8 := [102, 111, 114, 32, 110, 111, 116, 104, 105, 110, 103, 63]
theorem ex_in : inSum exKey (exA ++ exBM) = [152, 133, 18, 68, 58, 249, 28, 87, 163, 140, 226, 220, 142, 195, 135, 150, 108, 8, 222, 196] := by decide +kernel
theorem ex_out : shaSum (xorB 92 (keyB exKey) ++ [152, 133, 18, 68, 58, 249, 28, 87, 163, 140, 226, 220, 142, 195, 135, 150, 108, 8, 222, 196]) = [239, 252, 223, 106, 229, 235, 47, 162, 210, 116, 22, 213, 241, 132, 223, 156, 37, 154, 124, 121] := by decide +kernel
theorem ex_isM : macFull exKey (exA ++ exBM) = [239, 252, 223, 106, 229, 235, 47, 162, 210, 116, 22, 213, 241, 132, 223, 156, 37, 154, 124, 121] := by unfold macFull; rw [ex_in, ex_out]
end Go.Proofs.YtmkeioeodlidgaaDoor

namespace Go.Proofs.YtmkeioeodlidgaaDoor
set_option linter.unusedVariables false

/-- The highest of the indices that were there; -1: none. -/
def hiL (L : List Int) : Int := L.foldl (fun h y => if h < y then y else h) (-1)
/-- Is an index fresh? -/
def frL (L : List Int) (x : Int) : Bool := decide (0 ≤ x ∧ hiL L < x + 64 ∧ x ∉ L)
/-- The indices behind a mark. -/
def mkL (L : List Int) (x : Int) : List Int := if frL L x = true then L ++ [x] else L
/-- How many of the window's were there. -/
def ctLW (L : List Int) : Nat := L.countP (fun y => decide (hiL L < y + 64))

theorem hiL_nil : hiL [] = -1 := rfl
theorem hiL_snoc (L : List Int) (x : Int) : hiL (L ++ [x]) = if hiL L < x then x else hiL L := by
  unfold hiL
  rw [List.foldl_append]
  rfl
theorem hiL_facts (L : List Int) : -1 ≤ hiL L ∧ (∀ y ∈ L, y ≤ hiL L) ∧ (hiL L = -1 ∨ hiL L ∈ L) := by
  suffices h : ∀ M : List Int, -1 ≤ hiL M.reverse ∧ (∀ y ∈ M.reverse, y ≤ hiL M.reverse) ∧ (hiL M.reverse = -1 ∨ hiL M.reverse ∈ M.reverse) by
    have := h L.reverse
    rwa [List.reverse_reverse] at this
  intro M
  induction M with
  | nil => simp [hiL_nil]
  | cons a M ih =>
    obtain ⟨h1, h2, h3⟩ := ih
    rw [List.reverse_cons, hiL_snoc]
    split
    · refine ⟨by omega, fun y hy => ?_, .inr (by simp)⟩
      rcases List.mem_append.1 hy with h | h
      · have := h2 y h; omega
      · have := List.mem_singleton.1 h; omega
    · refine ⟨h1, fun y hy => ?_, ?_⟩
      · rcases List.mem_append.1 hy with h | h
        · exact h2 y h
        · have := List.mem_singleton.1 h; omega
      · rcases h3 with h | h
        · exact .inl h
        · exact .inr (List.mem_append_left _ h)
theorem hiL_low (L : List Int) : -1 ≤ hiL L := (hiL_facts L).1
theorem hiL_ge {L : List Int} {y : Int} (h : y ∈ L) : y ≤ hiL L := (hiL_facts L).2.1 y h
theorem hiL_mem {L : List Int} (h : L ≠ []) (hp : ∀ y ∈ L, 0 ≤ y) : hiL L ∈ L := by
  rcases (hiL_facts L).2.2 with e | e
  · obtain ⟨a, M, rfl⟩ := List.exists_cons_of_ne_nil h
    have := hp a (by simp)
    have := hiL_ge (L := a :: M) (y := a) (by simp)
    omega
  · exact e
theorem frL_iff (L : List Int) (x : Int) : frL L x = true ↔ 0 ≤ x ∧ hiL L < x + 64 ∧ x ∉ L := by simp [frL]
theorem mkL_of {L : List Int} {x : Int} (h : frL L x = true) : mkL L x = L ++ [x] := by simp [mkL, h]
theorem mkL_not {L : List Int} {x : Int} (h : frL L x = false) : mkL L x = L := by simp [mkL, h]
theorem hiL_mk (L : List Int) (x : Int) : hiL L ≤ hiL (mkL L x) := by
  cases h : frL L x
  · rw [mkL_not h]; exact Int.le_refl _
  · rw [mkL_of h, hiL_snoc]; split <;> omega
theorem mem_mk {L : List Int} {y : Int} (x : Int) (h : y ∈ L) : y ∈ mkL L x := by
  cases hf : frL L x
  · rw [mkL_not hf]; exact h
  · rw [mkL_of hf]; exact List.mem_append_left _ h
/-- What isn't fresh isn't fresh later. -/
theorem fr_mk {L : List Int} {y : Int} (x : Int) (h : frL L y = false) : frL (mkL L x) y = false := by
  rw [← Bool.not_eq_true, frL_iff] at h ⊢
  intro ⟨h1, h2, h3⟩
  exact h ⟨h1, by have := hiL_mk L x; omega, fun hm => h3 (mem_mk x hm)⟩
/-- What was marked isn't fresh. -/
theorem fr_self (L : List Int) (x : Int) : frL (mkL L x) x = false := by
  cases hf : frL L x
  · rw [mkL_not hf]; exact hf
  · rw [← Bool.not_eq_true, frL_iff, mkL_of hf]
    intro ⟨_, _, h3⟩
    exact h3 (by simp)
theorem mk_len (L : List Int) (x : Int) : (mkL L x).length ≤ L.length + 1 := by
  cases hf : frL L x
  · rw [mkL_not hf]; omega
  · rw [mkL_of hf]; simp
theorem mk_top {L : List Int} {x B : Int} (h : ∀ y ∈ L, 0 ≤ y ∧ y ≤ B) (hx : x ≤ B) : ∀ y ∈ mkL L x, 0 ≤ y ∧ y ≤ B := by
  cases hf : frL L x
  · rw [mkL_not hf]; exact h
  · rw [mkL_of hf]
    intro y hy
    rcases List.mem_append.1 hy with h' | h'
    · exact h y h'
    · have := List.mem_singleton.1 h'
      have := ((frL_iff L x).1 hf).1
      omega
theorem hiL_top {L : List Int} {B : Int} (h : ∀ y ∈ L, 0 ≤ y ∧ y ≤ B) (hB : -1 ≤ B) : hiL L ≤ B := by
  rcases (hiL_facts L).2.2 with e | e
  · omega
  · exact (h _ e).2

/-! How many of the first k hold. -/
def cnt (f : Nat → Bool) : Nat → Nat
  | 0 => 0
  | k + 1 => cnt f k + (if f k = true then 1 else 0)
theorem cnt_congr {f g : Nat → Bool} : ∀ k, (∀ n, n < k → f n = g n) → cnt f k = cnt g k
  | 0, _ => rfl
  | k + 1, h => by simp only [cnt]; rw [cnt_congr k (fun n hn => h n (by omega)), h k (by omega)]
theorem cnt_zero (k : Nat) : cnt (fun _ => false) k = 0 := by
  induction k with
  | zero => rfl
  | succ k ih => simp [cnt, ih]
theorem cnt_or {f g : Nat → Bool} (h : ∀ n, f n = true → g n = false) : ∀ k, cnt (fun n => f n || g n) k = cnt f k + cnt g k
  | 0 => rfl
  | k + 1 => by
    have key : ∀ (x y : Bool) (A B : Nat), (x = true → y = false) → (A + B + if (x || y) = true then 1 else 0) = (A + if x = true then 1 else 0) + (B + if y = true then 1 else 0) := by
      intro x y A B h1
      cases x <;> cases y <;> simp_all <;> omega
    rw [cnt, cnt_or h k]
    exact key _ _ _ _ (h k)
theorem cnt_one (h a : Int) (ha : a ≤ h) : ∀ k, cnt (fun n => decide (h - (n : Int) = a)) k = if h - a < (k : Int) then 1 else 0
  | 0 => by simp only [cnt]; rw [if_neg (by omega)]
  | k + 1 => by
    simp only [cnt, cnt_one h a ha k, decide_eq_true_eq]
    split <;> split <;> split <;> omega
theorem cnt_list (h : Int) : ∀ M : List Int, M.Nodup → (∀ y ∈ M, y ≤ h) → cnt (fun n => decide (h - (n : Int) ∈ M)) 64 = M.countP (fun y => decide (h < y + 64))
  | [], _, _ => by simp [cnt_zero]
  | a :: M, hn, hy => by
    have hn' := List.nodup_cons.1 hn
    have e : cnt (fun n => decide (h - (n : Int) ∈ a :: M)) 64 = cnt (fun n => decide (h - (n : Int) = a) || decide (h - (n : Int) ∈ M)) 64 := cnt_congr 64 fun n _ => by
      simp only [List.mem_cons, Bool.decide_or]
    rw [e, cnt_or (fun n h1 => by
      have h1 := of_decide_eq_true h1
      simpa [h1] using hn'.1) 64, cnt_one h a (hy a (by simp)), cnt_list h M hn'.2 (fun y h1 => hy y (by simp [h1])), List.countP_cons]
    have ha := hy a (by simp)
    by_cases hc : h < a + 64
    · rw [if_pos (by omega), if_pos (by simpa using hc)]; omega
    · rw [if_neg (by omega), if_neg (by simpa using hc)]; omega

/-! The window. -/
/-- A window's highest index and bits are those of the indices that were there. -/
structure WinS (L : List Int) (h : Int) (p : Nat) : Prop where
  lt : p < 18446744073709551616
  hh : L ≠ [] → h = hiL L
  h0 : L = [] → h = 0 ∧ p = 0
  bit : ∀ n : Nat, n < 64 → p.testBit n = decide (h - (n : Int) ∈ L)
  pos : ∀ y ∈ L, 0 ≤ y
  nd : L.Nodup
theorem WinS.nil : WinS [] 0 0 := ⟨by omega, by simp, by simp, by simp, by simp, List.nodup_nil⟩
section
variable {L : List Int} {h : Int} {p : Nat}
theorem WinS.zero (W : WinS L h p) : p = 0 ↔ L = [] := by
  constructor
  · intro hp
    cases L with
    | nil => rfl
    | cons a M =>
      have h1 := W.bit 0 (by omega)
      have h2 := hiL_mem (L := a :: M) (by simp) W.pos
      have h3 := W.hh (by simp)
      rw [hp] at h1
      simp only [Nat.zero_testBit, Int.natCast_zero, Int.sub_zero] at h1
      rw [h3] at h1
      simp [h2] at h1
  · intro hL
    exact (W.h0 hL).2
theorem WinS.hpos (W : WinS L h p) : 0 ≤ h := by
  by_cases hL : L = []
  · have := (W.h0 hL).1; omega
  · rw [W.hh hL]; exact W.pos _ (hiL_mem hL W.pos)
theorem WinS.high (W : WinS L h p) : (if p = 0 then -1 else h) = hiL L := by
  by_cases hL : L = []
  · rw [if_pos (W.zero.2 hL), hL]; rfl
  · rw [if_neg (fun e => hL (W.zero.1 e)), W.hh hL]
theorem WinS.le (W : WinS L h p) : hiL L ≤ h := by
  have := W.high
  have := W.hpos
  split at * <;> omega
theorem fr_neg {i : Int} (hi : i < 0) : frL L i = false := by
  rw [← Bool.not_eq_true, frL_iff]; intro h; omega
theorem fr_above {i : Int} (h0 : 0 ≤ i) (hi : hiL L < i) : frL L i = true := by
  rw [frL_iff]
  exact ⟨h0, by omega, fun hm => by have := hiL_ge hm; omega⟩
theorem fr_far {i : Int} (hi : 64 ≤ hiL L - i) : frL L i = false := by
  rw [← Bool.not_eq_true, frL_iff]; intro h; omega
theorem WinS.near (W : WinS L h p) {i : Int} (h0 : 0 ≤ i) (hi : i ≤ hiL L) (n : Nat) (hn : hiL L - i = n) (h6 : n < 64) : frL L i = !(p.testBit n) := by
  have hL : L ≠ [] := by
    intro e
    subst e
    have := hiL_nil
    omega
  rw [W.bit n h6, W.hh hL, show hiL L - (n : Int) = i by omega]
  unfold frL
  by_cases hm : i ∈ L <;> simp [hm] <;> omega
theorem two64 : (18446744073709551616 : Nat) = 2 ^ 64 := by decide
theorem nodup_snoc {i : Int} (hn : L.Nodup) (hi : i ∉ L) : (L ++ [i]).Nodup := by
  rw [List.nodup_append]
  refine ⟨hn, by simp, fun a ha b hb => ?_⟩
  have := List.mem_singleton.1 hb
  subst this
  exact fun e => hi (e ▸ ha)
theorem testBit_one_at (n : Nat) : Nat.testBit 1 n = decide (n = 0) := by
  cases n with
  | zero => rfl
  | succ n => rw [Nat.testBit_succ]; simp
/-- A mark above the highest one. -/
theorem WinS.up (W : WinS L h p) {i : Int} (hi : h < i) (d : Nat) (hd : i - h = d) : WinS (mkL L i) i ((p * 2 ^ d) % 18446744073709551616 ||| 1) := by
  have hp := W.hpos
  have hf : frL L i = true := fr_above (by omega) (by have := W.le; omega)
  have hni := ((frL_iff L i).1 hf).2.2
  rw [mkL_of hf]
  refine ⟨?_, fun _ => ?_, by simp, fun n hn => ?_, fun y hy => ?_, nodup_snoc W.nd hni⟩
  · rw [two64]
    exact Nat.or_lt_two_pow (Nat.mod_lt _ (by decide)) (by decide)
  · rw [hiL_snoc, if_pos (by have := W.le; omega)]
  · rw [Nat.testBit_or, two64, Nat.testBit_mod_two_pow, Nat.testBit_mul_two_pow, testBit_one_at, decide_eq_true hn, Bool.true_and]
    by_cases h0 : n = 0
    · subst h0
      simp
    · have e0 : decide (n = 0) = false := by simp [h0]
      rw [e0, Bool.or_false]
      by_cases hdn : d ≤ n
      · have e1 : decide (n ≥ d) = true := decide_eq_true hdn
        rw [e1, Bool.true_and, W.bit (n - d) (by omega), show h - ((n - d : Nat) : Int) = i - (n : Int) by omega]
        have : i - (n : Int) ≠ i := by omega
        simp [this]
      · have e1 : decide (n ≥ d) = false := by simp; omega
        rw [e1, Bool.false_and]
        have h1 : i - (n : Int) ∉ L := fun hm => by
          have := hiL_ge hm
          have := W.le
          omega
        have : i - (n : Int) ≠ i := by omega
        simp [this, h1]
  · rcases List.mem_append.1 hy with h' | h'
    · exact W.pos y h'
    · have := List.mem_singleton.1 h'; omega
/-- A mark that isn't above it. -/
theorem WinS.in (W : WinS L h p) {i : Int} (hi : i ≤ h) (hf : frL L i = true) (d : Nat) (hd : h - i = d) : WinS (mkL L i) h (p ||| 2 ^ d) ∧ d < 64 := by
  have hfi := (frL_iff L i).1 hf
  have hd6 : d < 64 := by
    by_cases hL : L = []
    · have := (W.h0 hL).1
      omega
    · have := W.hh hL
      omega
  refine ⟨?_, hd6⟩
  rw [mkL_of hf]
  refine ⟨?_, fun _ => ?_, by simp, fun n hn => ?_, fun y hy => ?_, nodup_snoc W.nd hfi.2.2⟩
  · rw [two64]
    exact Nat.or_lt_two_pow (by rw [← two64]; exact W.lt) (Nat.pow_lt_pow_right (by decide) hd6)
  · rw [hiL_snoc]
    by_cases hL : L = []
    · have := (W.h0 hL).1
      subst hL
      rw [hiL_nil]
      split <;> omega
    · rw [W.hh hL] at hi ⊢
      rw [if_neg (by omega)]
  · rw [Nat.testBit_or, Nat.testBit_two_pow, W.bit n hn]
    by_cases he : d = n
    · subst he
      have : h - (d : Int) = i := by omega
      simp [this]
    · have : h - (n : Int) ≠ i := by omega
      simp [this, he]
  · rcases List.mem_append.1 hy with h' | h'
    · exact W.pos y h'
    · have := List.mem_singleton.1 h'; omega
/-- How many were there. -/
theorem WinS.count (W : WinS L h p) : cnt p.testBit 64 = ctLW L := by
  by_cases hL : L = []
  · have := (W.h0 hL).2
    subst this; subst hL
    rw [cnt_congr (g := fun _ => false) 64 (fun n _ => Nat.zero_testBit n), cnt_zero]
    rfl
  · have hh := W.hh hL
    rw [cnt_congr 64 W.bit, cnt_list h L W.nd (fun y hy => by rw [hh]; exact hiL_ge hy), hh]
    rfl
end

/-! How many bits of a number are set, as the library counts them. -/
/-- The sum of a number's k low bits. -/
def bs : Nat → Nat → Nat
  | 0, _ => 0
  | k + 1, x => x % 2 + bs k (x / 2)
theorem bs_cnt : ∀ k x, bs k x = cnt x.testBit k
  | 0, _ => rfl
  | k + 1, x => by
    have h : ∀ k (f : Nat → Bool), cnt f (k + 1) = (if f 0 = true then 1 else 0) + cnt (fun n => f (n + 1)) k := by
      intro k f
      induction k with
      | zero => simp [cnt]
      | succ k ih =>
        rw [cnt, ih]
        simp only [cnt]
        omega
    rw [bs, bs_cnt k, h]
    have e : (fun n => x.testBit (n + 1)) = (x / 2).testBit := by funext n; rw [Nat.testBit_succ]
    rw [e, Nat.testBit_zero]
    have := Nat.mod_two_eq_zero_or_one x
    rcases this with h | h <;> simp [h]
theorem and_split (k a b d e : Nat) (hd : d < 2 ^ k) (he : e < 2 ^ k) : (2 ^ k * a + d) &&& (2 ^ k * b + e) = 2 ^ k * (a &&& b) + (d &&& e) := by
  apply Nat.eq_of_testBit_eq
  intro i
  rw [Nat.testBit_and, Nat.testBit_two_pow_mul_add _ hd, Nat.testBit_two_pow_mul_add _ he, Nat.testBit_two_pow_mul_add _ (Nat.lt_of_le_of_lt Nat.and_le_left hd)]
  split
  · rw [Nat.testBit_and]
  · rw [Nat.testBit_and]
def c1 : Nat → Nat → Nat
  | 0, _ => 0
  | k + 1, x => 4 * c1 k (x / 4) + (x % 2 + x / 2 % 2)
def m1 : Nat → Nat
  | 0 => 0
  | k + 1 => 4 * m1 k + 1
theorem s1 : ∀ k x, (x / 2 &&& m1 k) + (x &&& m1 k) = c1 k x
  | 0, x => by simp [m1, c1]
  | k + 1, x => by
    have ih := s1 k (x / 4)
    have e1 : x / 2 = 2 ^ 2 * (x / 4 / 2) + x / 2 % 4 := by omega
    have e2 : x = 2 ^ 2 * (x / 4) + x % 4 := by omega
    have h1 : (x / 2 &&& m1 (k + 1)) = 4 * (x / 4 / 2 &&& m1 k) + x / 2 % 2 := by
      rw [m1]
      conv => lhs; rw [e1]
      rw [show 4 * m1 k + 1 = 2 ^ 2 * m1 k + 1 by omega, and_split 2 _ _ _ _ (by omega) (by omega), Nat.and_one_is_mod]
      omega
    have h2 : (x &&& m1 (k + 1)) = 4 * (x / 4 &&& m1 k) + x % 2 := by
      rw [m1]
      conv => lhs; rw [e2]
      rw [show 4 * m1 k + 1 = 2 ^ 2 * m1 k + 1 by omega, and_split 2 _ _ _ _ (by omega) (by omega), Nat.and_one_is_mod]
      omega
    rw [h1, h2, c1, ← ih]
    omega
/-- The bits of half a byte. -/
def q4 (x : Nat) : Nat := x % 2 + x / 2 % 2 + x / 4 % 2 + x / 8 % 2
theorem q4_le (x : Nat) : q4 x ≤ 4 := by unfold q4; omega
def c2 : Nat → Nat → Nat
  | 0, _ => 0
  | k + 1, x => 16 * c2 k (x / 16) + q4 x
def m2 : Nat → Nat
  | 0 => 0
  | k + 1 => 16 * m2 k + 3
theorem s2 : ∀ k x, (c1 (2 * k) x / 4 &&& m2 k) + (c1 (2 * k) x &&& m2 k) = c2 k x
  | 0, x => by simp [m2, c2]
  | k + 1, x => by
    have ih := s2 k (x / 16)
    have e0 : c1 (2 * (k + 1)) x = 4 * (4 * c1 (2 * k) (x / 16) + (x / 4 % 2 + x / 8 % 2)) + (x % 2 + x / 2 % 2) := by
      rw [show 2 * (k + 1) = 2 * k + 1 + 1 by omega, c1, c1, show x / 4 / 4 = x / 16 by omega, show x / 4 / 2 = x / 8 by omega]
    obtain ⟨Y, hY⟩ : ∃ Y, Y = c1 (2 * k) (x / 16) := ⟨_, rfl⟩
    rw [← hY] at ih e0
    obtain ⟨a, ha⟩ : ∃ a, a = x / 4 % 2 + x / 8 % 2 := ⟨_, rfl⟩
    obtain ⟨b, hb⟩ : ∃ b, b = x % 2 + x / 2 % 2 := ⟨_, rfl⟩
    rw [← ha, ← hb] at e0
    have hq : q4 x = a + b := by unfold q4; omega
    have ha2 : a ≤ 2 := by omega
    have hb2 : b ≤ 2 := by omega
    have h1 : (c1 (2 * (k + 1)) x / 4 &&& m2 (k + 1)) = 16 * (Y / 4 &&& m2 k) + a := by
      rw [m2, e0, show (4 * (4 * Y + a) + b) / 4 = 2 ^ 4 * (Y / 4) + (4 * (Y % 4) + a) by omega, show 16 * m2 k + 3 = 2 ^ 4 * m2 k + 3 by omega, and_split 4 _ _ _ _ (by omega) (by omega), show 3 = 2 ^ 2 - 1 by rfl, Nat.and_two_pow_sub_one_eq_mod]
      omega
    have h2 : (c1 (2 * (k + 1)) x &&& m2 (k + 1)) = 16 * (Y &&& m2 k) + b := by
      rw [m2, e0, show 4 * (4 * Y + a) + b = 2 ^ 4 * Y + (4 * a + b) by omega, show 16 * m2 k + 3 = 2 ^ 4 * m2 k + 3 by omega, and_split 4 _ _ _ _ (by omega) (by omega), show 3 = 2 ^ 2 - 1 by rfl, Nat.and_two_pow_sub_one_eq_mod]
      omega
    rw [h1, h2, c2, hq, ← ih]
    omega
theorem c2_low : ∀ k x, c2 k x % 16 ≤ 4
  | 0, x => by simp [c2]
  | k + 1, x => by have := q4_le x; rw [c2]; omega
theorem c1_lt : ∀ k x, c1 k x < 4 ^ k
  | 0, x => by simp [c1]
  | k + 1, x => by have := c1_lt k (x / 4); rw [c1, Nat.pow_succ]; omega
theorem c2_lt : ∀ k x, 15 * c2 k x + 4 ≤ 4 * 16 ^ k
  | 0, x => by simp [c2]
  | k + 1, x => by have := c2_lt k (x / 16); have := q4_le x; rw [c2, Nat.pow_succ]; omega
def c3 : Nat → Nat → Nat
  | 0, _ => 0
  | k + 1, x => 256 * c3 k (x / 256) + (q4 (x / 16) + q4 x)
def m3 : Nat → Nat
  | 0 => 0
  | k + 1 => 256 * m3 k + 15
theorem s3 : ∀ k x, ((c2 (2 * k) x / 16 + c2 (2 * k) x) &&& m3 k) = c3 k x
  | 0, x => by simp [m3, c3]
  | k + 1, x => by
    have ih := s3 k (x / 256)
    have e0 : c2 (2 * (k + 1)) x = 16 * (16 * c2 (2 * k) (x / 256) + q4 (x / 16)) + q4 x := by
      rw [show 2 * (k + 1) = 2 * k + 1 + 1 by omega, c2, c2, show x / 16 / 16 = x / 256 by omega]
    have hl := c2_low (2 * k) (x / 256)
    have ha := q4_le (x / 16)
    have hb := q4_le x
    obtain ⟨Y, hY⟩ : ∃ Y, Y = c2 (2 * k) (x / 256) := ⟨_, rfl⟩
    rw [← hY] at ih e0 hl
    obtain ⟨a, ha'⟩ : ∃ a, a = q4 (x / 16) := ⟨_, rfl⟩
    obtain ⟨b, hb'⟩ : ∃ b, b = q4 x := ⟨_, rfl⟩
    rw [c3, m3, e0, ← ha', ← hb']
    rw [← ha'] at ha
    rw [← hb'] at hb
    rw [show (16 * (16 * Y + a) + b) / 16 + (16 * (16 * Y + a) + b) = 2 ^ 8 * (Y / 16 + Y) + (16 * (Y % 16) + a + 16 * a + b) by omega, show 256 * m3 k + 15 = 2 ^ 8 * m3 k + 15 by omega, and_split 8 _ _ _ _ (by omega) (by omega), show 15 = 2 ^ 4 - 1 by rfl, Nat.and_two_pow_sub_one_eq_mod, ih]
    omega
theorem bs8 (k x : Nat) : bs (k + 8) x = bs k (x / 256) + (q4 (x / 16) + q4 x) := by
  simp only [bs, q4]
  rw [show x / 2 / 2 / 2 / 2 / 2 / 2 / 2 / 2 = x / 256 by omega]
  omega
theorem lastN (r0 r1 r2 r3 r4 r5 r6 r7 c a b d : Nat) (h0 : r0 ≤ 8) (h1 : r1 ≤ 8) (h2 : r2 ≤ 8) (h3 : r3 ≤ 8) (h4 : r4 ≤ 8) (h5 : r5 ≤ 8) (h6 : r6 ≤ 8) (h7 : r7 ≤ 8)
    (hc : c = 256 * (256 * (256 * (256 * (256 * (256 * (256 * r7 + r6) + r5) + r4) + r3) + r2) + r1) + r0) (ha : a = c + c / 256) (hb : b = a + a / 65536) (hd : d = b + b / 4294967296) :
    c ≤ 600000000000000000 ∧ a ≤ 1200000000000000000 ∧ b ≤ 2400000000000000000 ∧ d ≤ 4800000000000000000 ∧ d % 128 = r0 + r1 + r2 + r3 + r4 + r5 + r6 + r7 := by
  have hcl : c ≤ 600000000000000000 := by omega
  have hal : a ≤ 1200000000000000000 := by omega
  have hbl : b ≤ 2400000000000000000 := by omega
  have hdl : d ≤ 4800000000000000000 := by omega
  refine ⟨hcl, hal, hbl, hdl, ?_⟩
  clear hcl hal hbl hdl
  obtain ⟨P3, hP3⟩ : ∃ P3, P3 = 256 * r7 + r6 := ⟨_, rfl⟩
  obtain ⟨P2, hP2⟩ : ∃ P2, P2 = 256 * r5 + r4 := ⟨_, rfl⟩
  obtain ⟨P1, hP1⟩ : ∃ P1, P1 = 256 * r3 + r2 := ⟨_, rfl⟩
  obtain ⟨P0, hP0⟩ : ∃ P0, P0 = 256 * r1 + r0 := ⟨_, rfl⟩
  have hc' : c = 65536 * (65536 * (65536 * P3 + P2) + P1) + P0 := by rw [hc]; omega
  have hcd : c / 256 = 65536 * (65536 * (65536 * r7 + (256 * r6 + r5)) + (256 * r4 + r3)) + (256 * r2 + r1) := by rw [hc]; omega
  rw [hcd, hc'] at ha
  clear hc hcd hc'
  obtain ⟨Q3, hQ3⟩ : ∃ Q3, Q3 = 256 * r7 + (r6 + r7) := ⟨_, rfl⟩
  obtain ⟨Q2, hQ2⟩ : ∃ Q2, Q2 = 256 * (r5 + r6) + (r4 + r5) := ⟨_, rfl⟩
  obtain ⟨Q1, hQ1⟩ : ∃ Q1, Q1 = 256 * (r3 + r4) + (r2 + r3) := ⟨_, rfl⟩
  obtain ⟨Q0, hQ0⟩ : ∃ Q0, Q0 = 256 * (r1 + r2) + (r0 + r1) := ⟨_, rfl⟩
  have ha' : a = 65536 * (65536 * (65536 * Q3 + Q2) + Q1) + Q0 := by omega
  have l3 : Q3 ≤ 5000 := by omega
  have l2 : Q2 ≤ 5000 := by omega
  have l1 : Q1 ≤ 5000 := by omega
  have l0 : Q0 ≤ 5000 := by omega
  have had : a / 65536 = 65536 * (65536 * Q3 + Q2) + Q1 := by clear hQ0 hQ1 hQ2 hQ3 ha hP0 hP1 hP2 hP3; omega
  rw [had, ha'] at hb
  clear ha ha' had hP0 hP1 hP2 hP3
  have hb' : b = 4294967296 * (65536 * Q3 + (Q2 + Q3)) + (65536 * (Q1 + Q2) + (Q0 + Q1)) := by clear hQ0 hQ1 hQ2 hQ3; omega
  have hbd : b / 4294967296 = 65536 * Q3 + (Q2 + Q3) := by clear hQ0 hQ1 hQ2 hQ3; omega
  rw [hbd, hb'] at hd
  clear hb hb' hbd
  have hS : Q0 + Q1 + Q2 + Q3 = 256 * (r1 + r2 + r3 + r4 + r5 + r6 + r7) + (r0 + r1 + r2 + r3 + r4 + r5 + r6 + r7) := by omega
  have hS2 : d % 128 = (Q0 + Q1 + Q2 + Q3) % 128 := by clear hQ0 hQ1 hQ2 hQ3 hS; omega
  rw [hS2, hS]
  clear hd hS2 hS hQ0 hQ1 hQ2 hQ3
  omega
theorem q8 (y : Nat) : q4 (y / 16) + q4 y ≤ 8 := by have := q4_le (y / 16); have := q4_le y; omega
/-- The last steps. -/
theorem last (x c a b d : Nat) (hc : c = c3 8 x) (ha : a = c + c / 256) (hb : b = a + a / 65536) (hd : d = b + b / 4294967296) : c ≤ 600000000000000000 ∧ a ≤ 1200000000000000000 ∧ b ≤ 2400000000000000000 ∧ d ≤ 4800000000000000000 ∧ d % 128 = bs 64 x := by
  have hbs : bs 64 x = (q4 (x / 16) + q4 x) + (q4 (x / 256 / 16) + q4 (x / 256)) + (q4 (x / 256 / 256 / 16) + q4 (x / 256 / 256)) + (q4 (x / 256 / 256 / 256 / 16) + q4 (x / 256 / 256 / 256)) + (q4 (x / 256 / 256 / 256 / 256 / 16) + q4 (x / 256 / 256 / 256 / 256)) +
      (q4 (x / 256 / 256 / 256 / 256 / 256 / 16) + q4 (x / 256 / 256 / 256 / 256 / 256)) + (q4 (x / 256 / 256 / 256 / 256 / 256 / 256 / 16) + q4 (x / 256 / 256 / 256 / 256 / 256 / 256)) + (q4 (x / 256 / 256 / 256 / 256 / 256 / 256 / 256 / 16) + q4 (x / 256 / 256 / 256 / 256 / 256 / 256 / 256)) := by
    rw [bs8 56, bs8 48, bs8 40, bs8 32, bs8 24, bs8 16, bs8 8, bs8 0, bs]
    omega
  have hc3 : c = 256 * (256 * (256 * (256 * (256 * (256 * (256 * (q4 (x / 256 / 256 / 256 / 256 / 256 / 256 / 256 / 16) + q4 (x / 256 / 256 / 256 / 256 / 256 / 256 / 256)) + (q4 (x / 256 / 256 / 256 / 256 / 256 / 256 / 16) + q4 (x / 256 / 256 / 256 / 256 / 256 / 256))) + (q4 (x / 256 / 256 / 256 / 256 / 256 / 16) + q4 (x / 256 / 256 / 256 / 256 / 256))) +
      (q4 (x / 256 / 256 / 256 / 256 / 16) + q4 (x / 256 / 256 / 256 / 256))) + (q4 (x / 256 / 256 / 256 / 16) + q4 (x / 256 / 256 / 256))) + (q4 (x / 256 / 256 / 16) + q4 (x / 256 / 256))) + (q4 (x / 256 / 16) + q4 (x / 256))) + (q4 (x / 16) + q4 x) := by
    rw [hc, c3, c3, c3, c3, c3, c3, c3, c3, c3, Nat.mul_zero, Nat.zero_add]
  rw [hbs]
  exact lastN _ _ _ _ _ _ _ _ c a b d (q8 _) (q8 _) (q8 _) (q8 _) (q8 _) (q8 _) (q8 _) (q8 _) hc3 ha hb hd
end Go.Proofs.YtmkeioeodlidgaaDoor
