/- Contracts of package ring: Forget, Put. No statement is proved here. -/
import Derived.Test.YtjbeheegciacpaaRngI4
import Derived.Test.YtjbeheegciacpaaRngC1
import Derived.Deep.LoopGhost
namespace Go.Proofs.Ytjbeheegciacpaa
open Go.RowKit Go.Sort
set_option linter.unusedVariables false

theorem forget19_any (w : World) (g : Nat) (s : Rgs) (A : Option Addr) (c : Nat) (X : List Pks) (F : Nat → Prop) (i : Int) (h : RAt w g s A c X F) (hs : Srt s.L) :
    Calls Try.prog 9 #[.pointer (some ⟨g, 0, none⟩), .int .i64 i] w fun e w' => e = .returned (.int .i64 (lowL s.L i : Nat)) ∧ Hid (∃ A' c' X', RAt w' g ⟨s.P, s.B, forG s.L i⟩ A' c' X' F ∧ Fr F w w') := by
  have HS := Lib.hid (seek_any w g s A c X F i h hs)
  have hle := lowL_le i s.L
  have HC : Hid (∀ w1, Below w.heap.size w w1 → Calls Try.prog 21 #[.pointer (some ⟨g, 0, none⟩), .int .i64 (lowL s.L i : Nat)] w1 fun e w' => e = .returned (.tuple #[]) ∧ Hid (Cutd w1 g s X F (lowL s.L i) w')) := Lib.hid (fun w1 hb => cut_any w1 g s A c X F _ (h.below hb) hle)
  have HF := Lib.hid (forG_drop i s.L)
  obtain ⟨m, hm⟩ : ∃ m, m = lowL s.L i := ⟨_, rfl⟩
  obtain ⟨t, ht⟩ : ∃ t, t = decide (i ∈ s.L.map (·.1)) := ⟨_, rfl⟩
  rw [← hm] at HS HC HF ⊢
  rw [← ht] at HS
  have hmb : m ≤ 201 := by have := h.few; omega
  clear h hs hm hle ht
  go_enter Try.func9, Try.ntmps9
  go_wp2_with (first
    | (go_at_call 20; ((with_reducible refine HS.out.mono ?_); rintro e w1 ⟨rfl, hb⟩; have HC1 := Lib.hid (HC.out w1 hb.out)))
    | (go_at_call 21; ((with_reducible refine HC1.out.mono ?_); rintro e w2 ⟨rfl, hd⟩)))
  go_ret
  refine ⟨rfl, Lib.hid ?_⟩
  obtain ⟨A', c', h1, h2⟩ := hd.out
  rw [HF.out]
  exact ⟨A', c', _, h1, Fr.behind hb.out h2⟩

/-- A ring under way. -/
def RWay (w : World) (g : Nat) (P B : Int) (F : Nat → Prop) (L : List Pck) (wx : World) : Prop := ∃ A c X F', RAt wx g ⟨P, B, L⟩ A c X F' ∧ Fr F w wx ∧ ∀ k, F' k → F k ∨ w.heap.size ≤ k
theorem fitL_over {P B : Int} {x : Pck} {r : List Pck} (h : P < ((x :: r).length : Int) ∨ B < (sizD (x :: r) : Int)) : fitL P B (x :: r) = fitL P B r := by
  rw [fitL, if_pos h]
theorem fitL_fits {P B : Int} {L : List Pck} (h : ¬ (P < (L.length : Int) ∨ B < (sizD L : Int))) : fitL P B L = L := by
  cases L with
  | nil => rfl
  | cons x r => rw [fitL, if_neg h]
theorem RWay.cut {w wx w' : World} {g : Nat} {P B : Int} {F F' : Nat → Prop} {L : List Pck} {X : List Pks} (hf : Fr F w wx) (hF : ∀ k, F' k → F k ∨ w.heap.size ≤ k) (h : Cutd wx g ⟨P, B, L⟩ X F' 1 w') : RWay w g P B F (L.drop 1) w' := by
  obtain ⟨A', c', h1, h2⟩ := h
  exact ⟨A', c', _, F', h1, hf.trans h2 hF, hF⟩
/-- The index goes where it stands. -/
theorem insL_low (i : Int) (b : List UInt8) : ∀ L : List Pck, insL (i, b) L = L.take (lowL L i) ++ (i, b) :: L.drop (lowL L i)
  | [] => rfl
  | x :: r => by
    have := insL_low i b r
    unfold insL
    rw [lowL_cons]
    by_cases h : x.1 < i
    · rw [if_pos h, if_pos h, this]; rfl
    · rw [if_neg h, if_neg h]; rfl
theorem insAt_map (X : List Pks) (L : List Pck) (m : Nat) (y : Pks) (h : X.map (·.1) = L) : (insAt X m y).map (·.1) = L.take m ++ y.1 :: L.drop m := by
  unfold insAt
  rw [List.map_append, List.map_cons, List.map_take, List.map_drop, h]
theorem sizD_ins (i : Int) (b : List UInt8) (L : List Pck) : sizD (insL (i, b) L) = sizD L + b.length := by
  rw [sizD_perm (insL_perm _ _), sizD_cons]
  simp only
  omega
/-- One packet more stands in the row, its bytes not counted yet. -/
def Mid (w : World) (g : Nat) (s : Rgs) (F : Nat → Prop) (L1 : List Pck) (wx : World) : Prop :=
  ∃ A c X F', BlkV wx g 48 [.int .i64 s.P, .int .i64 s.B, .slice A L1.length c, .int .i64 (sizD s.L : Nat)] ∧ RAt (wx.setCell ⟨g, 3, none⟩ (.int .i64 (sizD L1 : Nat))) g ⟨s.P, s.B, L1⟩ A c X F' ∧ Fr F w wx ∧ ∀ k, F' k → F k ∨ w.heap.size ≤ k
/-- w: before Put; w1: behind seek; w2: behind the copy; w3: behind Insert (in the world of the new packet). -/
theorem mid_of {w w1 w2 w3 : World} {g : Nat} {s : Rgs} {A : Option Addr} {c : Nat} {X : List Pks} {F : Nat → Prop} {i : Int} {b : List UInt8} {A2 : Option Addr} {c2 : Nat} {A3 : Option Addr} {c3 m : Nat}
    (h : RAt w g s A c X F) (hb1 : Below w.heap.size w w1) (hown : w2.ownsRow w1.heap.size 5 1 (.slice A2 b.length c2) b.length (cells b)) (hb2 : Below w1.heap.size w1 w2) (hm : m = lowL s.L i)
    (hrow : RowP w3 A3 c3 (insAt X m ((i, b), A2, c2))) (hfr : Fr (fun k => ∃ a, A = some a ∧ k = a.block) (w2.alloc (.cells #[.int .i64 i, .slice A2 b.length c2] 54)) w3)
    (hA3 : ∃ a', A3 = some a' ∧ (a'.block = (w2.alloc (.cells #[.int .i64 i, .slice A2 b.length c2] 54)).heap.size ∨ ∃ a, A = some a ∧ a'.block = a.block))
    (hfew : s.L.length ≤ 200) (hz : sizD s.L + b.length ≤ 1000000000) :
    Mid w g s F (insL (i, b) s.L) (w3.setCell ⟨g, 2, none⟩ (.slice A3 (insL (i, b) s.L).length c3)) ∧ BlkV w3 g 48 [.int .i64 s.P, .int .i64 s.B, .slice A s.L.length c, .int .i64 (sizD s.L : Nat)] := by
  have hz1 := hb1.size
  have hz2 := hb2.size
  have b2 : Below w.heap.size w w2 := hb1.trans (hb2.mono hz1)
  obtain ⟨wa, hwa⟩ : ∃ wa, wa = w2.alloc (.cells #[.int .i64 i, .slice A2 b.length c2] 54) := ⟨_, rfl⟩
  rw [← hwa] at hfr hA3
  have bA : Below w2.heap.size w2 wa := by rw [hwa]; exact (Below.refl _ _).alloc (Nat.le_refl _) _
  have sA : wa.heap.size = w2.heap.size + 1 := by rw [hwa]; simp
  have ba : Below w.heap.size w wa := b2.trans (bA.mono b2.size)
  have hK : ∀ a, A = some a → F a.block ∧ a.block ≠ g := h.ownr
  have hgl := h.low _ h.own
  have hBg : BlkV w3 g 48 [.int .i64 s.P, .int .i64 s.B, .slice A s.L.length c, .int .i64 (sizD s.L : Nat)] :=
    (h.blk.below ba hgl).fr hfr (fun ⟨a, ha, e⟩ => (hK a ha).2 e.symm)
  refine ⟨?_, hBg⟩
  obtain ⟨a', rfl, hA3'⟩ := hA3
  have hrdn : RdS w2 A2 b.length c2 b := RdS.of_own hown
  have hnew : 0 < b.length → ∀ ad, A2 = some ad → w1.heap.size ≤ ad.block ∧ ad.block < w2.heap.size := fun hn ad hA => by
    obtain ⟨gg, h1, h2⟩ := own_blockN hown hn
    rw [hA] at h1
    cases h1
    exact ⟨h2, (hown.lt gg (by rw [hA]; rfl)).2⟩
  have hlt3 : a'.block < w3.heap.size := by
    obtain ⟨bb, oo, CC, e, hB, _, _⟩ := hrow.some_ a' rfl
    rw [e]
    exact hB.lt
  have hag : a'.block ≠ g := by
    rcases hA3' with e | ⟨a, ha, e⟩
    · omega
    · rw [e]; exact (hK a ha).2
  have hl1 := insL_low i b s.L
  have hlen := h.len
  have hlow := lowL_le i s.L
  have hln : (insL (i, b) s.L).length = s.L.length + 1 := by rw [(insL_perm _ _).length_eq]; rfl
  have hsz := sizD_ins i b s.L
  have hfrw : Fr F w w3 := (Fr.of_below (F := F) ba).trans hfr (fun k ⟨a, ha, e⟩ => .inl (by rw [e]; exact (hK a ha).1))
  have hsz3 : w.heap.size ≤ w3.heap.size := hfrw.size
  refine ⟨some a', c3, insAt X m ((i, b), A2, c2), fun k => F k ∨ (w.heap.size ≤ k ∧ k < w3.heap.size), hBg.set_ 2 _, ?_, hfrw.trans (Fr.of_only (F := F) (Only.set w3 g 2 _) h.own) (fun k hk => .inl hk), fun k hk => hk.elim .inl (fun h => .inr h.1)⟩
  have hO : Only g w3 ((w3.setCell ⟨g, 2, none⟩ (.slice (some a') (insL (i, b) s.L).length c3)).setCell ⟨g, 3, none⟩ (.int .i64 (sizD (insL (i, b) s.L) : Nat))) := (Only.set w3 g 2 _).trans (Only.set _ g 3 _)
  refine ⟨(hBg.set_ 2 _).set_ 3 _, hrow.stay (fun a ha => by cases ha; exact hO.block _ hag), ?_, ?_, ?_, .inl h.own, ?_, ?_, ?_, ?_, h.rooms⟩
  · rw [insAt_map X s.L m _ h.eq, hl1, hm]
  · intro x hx
    unfold insAt at hx
    have hcase : x ∈ X ∨ x = ((i, b), A2, c2) := by
      rcases List.mem_append.1 hx with h | h
      · exact .inl (List.mem_of_mem_take h)
      · rcases List.mem_cons.1 h with h | h
        · exact .inr h
        · exact .inl (List.mem_of_mem_drop h)
    rcases hcase with hx | rfl
    · refine (h.rd x hx).stay (by rw [hO.size]; exact hsz3) (fun hn ad hA => ?_)
      obtain ⟨o1, o2, o3⟩ := h.off x hx hn ad hA
      have o4 := h.low _ o1
      rw [hO.block _ o2, hfr.keep _ (by have := ba.size; omega) (fun ⟨a, ha, e⟩ => o3 a ha e)]
      exact ba.block _ o4
    · refine hrdn.stay (by rw [hO.size]; have := hfr.size; have := bA.size; omega) (fun hn ad hA => ?_)
      obtain ⟨n1, n2⟩ := hnew hn ad hA
      rw [hO.block _ (by omega), hfr.keep _ (by omega) (fun ⟨a, ha, e⟩ => by have := h.low _ (hK a ha).1; omega)]
      exact bA.block _ n2
  · intro x hx hn ad hA
    unfold insAt at hx
    have hcase : x ∈ X ∨ x = ((i, b), A2, c2) := by
      rcases List.mem_append.1 hx with h | h
      · exact .inl (List.mem_of_mem_take h)
      · rcases List.mem_cons.1 h with h | h
        · exact .inr h
        · exact .inl (List.mem_of_mem_drop h)
    rcases hcase with hx | rfl
    · obtain ⟨o1, o2, o3⟩ := h.off x hx hn ad hA
      have o4 := h.low _ o1
      refine ⟨.inl o1, o2, fun a ha => ?_⟩
      cases ha
      rcases hA3' with e | ⟨a, ha, e⟩
      · have := ba.size; omega
      · rw [e]; exact o3 a ha
    · obtain ⟨n1, n2⟩ := hnew hn ad hA
      have := hfr.size
      refine ⟨.inr ⟨by omega, by omega⟩, by omega, fun a ha => ?_⟩
      cases ha
      rcases hA3' with e | ⟨a, ha, e⟩
      · omega
      · rw [e]; have := h.low _ (hK a ha).1; omega
  · intro a ha
    cases ha
    refine ⟨?_, hag⟩
    rcases hA3' with e | ⟨a, ha, e⟩
    · exact .inr ⟨by have := ba.size; omega, hlt3⟩
    · exact .inl (by rw [e]; exact (hK a ha).1)
  · intro k hk
    rw [hO.size]
    rcases hk with hk | hk
    · have := h.low _ hk; omega
    · exact hk.2
  · show (insL (i, b) s.L).length ≤ 201
    omega
  · show sizD (insL (i, b) s.L) ≤ 1000000000
    omega
end Go.Proofs.Ytjbeheegciacpaa
