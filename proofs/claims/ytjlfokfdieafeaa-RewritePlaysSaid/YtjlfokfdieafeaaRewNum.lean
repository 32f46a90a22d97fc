/- Plain words on rewriters (layer 22). Names no program. No statement is proved here. -/
import Derived.Test.YtjlfokfdieafeaaOnK
namespace Go.Proofs.Ytjlfokfdieafeaa
set_option linter.unusedVariables false

/-- A packet's place: index, stamp, picture. -/
structure Mpd where
  i : Int
  st : Int
  pc : Int
def mz : Mpd := ⟨0, 0, 0⟩
/-- A rewriter: its First, does it follow, there, here, all that went out. -/
structure Wtr where
  first : Int
  fol : Bool
  th : Mpd
  he : Mpd
  O : List Mpd
def wz : Wtr := ⟨0, false, mz, mz, []⟩
def mrow (m : Mpd) : List Value := [.int .i64 m.i, .int .u32 m.st, .int .u16 m.pc]
def mcells (L : List Mpd) : List Value := L.flatMap mrow
theorem mcells_len (L : List Mpd) : (mcells L).length = L.length * 3 := by
  unfold mcells
  induction L with
  | nil => rfl
  | cons x r ih => simp only [List.flatMap_cons, List.length_append, ih, List.length_cons, mrow]; simp; omega
theorem mcells_snoc (L : List Mpd) (x : Mpd) : mcells (L ++ [x]) = mcells L ++ mrow x := by simp [mcells]
theorem mcells_at {L : List Mpd} {j : Nat} (hj : j < L.length) : ∀ d, d < 3 → (mcells L)[j * 3 + d]? = (mrow (L.getD j mz))[d]? := fun d hd => by
  have hcut : L = L.take j ++ ([L.getD j mz] ++ L.drop (j + 1)) := by
    rw [show [L.getD j mz] ++ L.drop (j + 1) = L.drop j by rw [List.drop_eq_getElem_cons hj, List.getD, List.getElem?_eq_getElem hj]; rfl]
    exact (List.take_append_drop j L).symm
  have e : mcells L = mcells (L.take j) ++ (mrow (L.getD j mz) ++ mcells (L.drop (j + 1))) := by
    conv => lhs; rw [hcut]
    simp [mcells]
  have ht : (mcells (L.take j)).length = j * 3 := by rw [mcells_len, List.length_take]; omega
  rw [e, List.getElem?_append_right (by omega), ht, Nat.add_sub_cancel_left, List.getElem?_append_left (by simpa [mrow] using hd)]
/-- The highest of the first k; of the same index the last one. -/
def topI (xs : List Int) : Nat → Int
  | 0 => -1
  | k + 1 => if topI xs k < 0 ∨ xs.getD (topI xs k).toNat 0 ≤ xs.getD k 0 then k else topI xs k
theorem topI_facts (xs : List Int) : ∀ k, 0 < k → ∃ m : Nat, topI xs k = m ∧ m < k ∧ ∀ j, j < k → xs.getD j 0 ≤ xs.getD m 0
  | 0, h => absurd h (by omega)
  | k + 1, _ => by
    by_cases h0 : k = 0
    · subst h0
      exact ⟨0, by simp [topI], by omega, fun j hj => by obtain rfl : j = 0 := by omega
                                                         exact Int.le_refl _⟩
    · obtain ⟨m, h1, h2, h3⟩ := topI_facts xs k (by omega)
      have e : topI xs (k + 1) = if topI xs k < 0 ∨ xs.getD (topI xs k).toNat 0 ≤ xs.getD k 0 then (k : Int) else topI xs k := rfl
      rw [h1, Int.toNat_natCast] at e
      by_cases h4 : xs.getD m 0 ≤ xs.getD k 0
      · rw [if_pos (.inr h4)] at e
        refine ⟨k, e, by omega, fun j hj => ?_⟩
        by_cases h5 : j = k
        · subst h5; exact Int.le_refl _
        · have := h3 j (by omega); omega
      · rw [if_neg (by omega)] at e
        refine ⟨m, e, by omega, fun j hj => ?_⟩
        by_cases h5 : j = k
        · subst h5; omega
        · exact h3 j (by omega)
def idxW (L : List Mpd) : List Int := L.map (·.i)
/-- The highest one's place in the row, -1: none. -/
def topW (s : Wtr) : Int := topI (idxW s.O) s.O.length
def highW (s : Wtr) : Int := if topW s < 0 then -1 else (s.O.getD (topW s).toNat mz).i
def hereW (s : Wtr) : Mpd := if topW s < 0 then ⟨s.first, 0, 0⟩ else ⟨(s.O.getD (topW s).toNat mz).i + 1, ((s.O.getD (topW s).toNat mz).st + 3000) % 4294967296, ((s.O.getD (topW s).toNat mz).pc + 1) % 32768⟩
def folE (x : Mpd) : Int := if x.i < 0 then 10 else 0
def folW (s : Wtr) (x : Mpd) : Wtr := if x.i < 0 then s else ⟨s.first, true, x, hereW s, s.O⟩
def mapE (s : Wtr) (x : Mpd) : Int := if s.fol = false ∨ x.i < 0 then 10 else if x.i < s.th.i then 5 else 0
def plcW (s : Wtr) (x : Mpd) : Mpd := ⟨s.he.i + (x.i - s.th.i), (s.he.st + (x.st - s.th.st)) % 4294967296, (s.he.pc + x.pc - s.th.pc) % 32768⟩
def mapY (s : Wtr) (x : Mpd) : Mpd := if mapE s x = 0 then plcW s x else mz
def mapW (s : Wtr) (x : Mpd) : Wtr := if mapE s x = 0 then ⟨s.first, s.fol, s.th, s.he, s.O ++ [plcW s x]⟩ else s
/-- What a packet may be. -/
def OkM (x : Mpd) : Prop := (-9223372036854775808 ≤ x.i ∧ x.i ≤ 4611686018427387904) ∧ (0 ≤ x.st ∧ x.st < 4294967296) ∧ 0 ≤ x.pc ∧ x.pc < 65536
/-- What is so of all rewriters. -/
structure OkW (s : Wtr) (B : Int) : Prop where
  first : 0 ≤ s.first ∧ s.first ≤ B
  th : OkM s.th ∧ (s.fol = true → 0 ≤ s.th.i)
  he : (0 ≤ s.he.i ∧ s.he.i ≤ B) ∧ (0 ≤ s.he.st ∧ s.he.st < 4294967296) ∧ 0 ≤ s.he.pc ∧ s.he.pc < 32768
  O : ∀ x ∈ s.O, (0 ≤ x.i ∧ x.i < B) ∧ (0 ≤ x.st ∧ x.st < 4294967296) ∧ 0 ≤ x.pc ∧ x.pc < 32768
end Go.Proofs.Ytjlfokfdieafeaa
