/- What the document's answers for layer 19 (tenailleref19) answer: a packet dropped. No statement is proved here. -/
import Derived.Test.YtjbeheegciacpaaRngR1
import Derived.Test.YtjbeheegciacpaaElts
namespace Go.Proofs.Ytjbeheegciacpaa
open Go.RowKit
set_option linter.unusedVariables false

theorem e64R : ElT 2 27 1 := elT (by8 := 8) (z := .int .i64 0) Try.underlying27 (by kernel_rfl) (by omega) rfl (by omega)
theorem estR : ElT 9 28 1 := elT (by8 := 16) (z := .string ByteArray.empty) Try.underlying28 (by kernel_rfl) (by omega) rfl (by omega)
theorem ne_e64st : (2 : TypeId) ≠ 9 := by decide
theorem ne_ste64 : (9 : TypeId) ≠ 2 := by decide
/-- A row's block holds elements of its type. -/
theorem own_type {w : World} {base s n p : Nat} {e : TypeId} {v : Value} {xs : List Value} (h : w.ownsRow base e s v n xs) (hp : v.ownBlock = some p) : ∃ (cur : Array Value) (fz : Nat × Nat), w.heap[p]? = some (.cells cur e fz) := by
  rcases h.2 with ⟨rfl, _⟩ | ⟨g, cap, cur, rfl, _, hg, _⟩
  · simp [Value.ownBlock] at hp
  · simp [Value.ownBlock] at hp
    subst hp
    exact ⟨_, _, hg⟩
/-- Two rows of the call's own: indices and texts. -/
structure Two19 (w : World) (v1 v2 : Value) (m : Nat) (L : List Pck) (wr : World) : Prop where
  a : wr.ownsRow w.heap.size 2 1 v1 m (icells (L.map (·.1)))
  b : wr.ownsRow w.heap.size 9 1 v2 m (tcells (L.map (·.2)))
  below : Below w.heap.size w wr
theorem Two19.first {w wr w2 : World} {v1 v2 v1' : Value} {m : Nat} {L : List Pck} {y : Int} (h : Two19 w v1 v2 m L wr) (ho : w2.ownsRow w.heap.size 2 1 v1' (m + 1) (icells (L.map (·.1)) ++ [.int .i64 y]))
    (hg : (wr.alloc (.cells #[.int .i64 y] 2)).grownBy w2 v1.ownBlock) : Below w.heap.size w w2 ∧ w2.ownsRow w.heap.size 9 1 v2 m (tcells (L.map (·.2))) := by
  have b1 := h.below.alloc h.below.size (.cells #[.int .i64 y] 2)
  refine ⟨b1.grown hg b1.size (fun p hp => (h.a.lt p hp).1), ?_⟩
  refine own_thN (h.b.alloc (.cells #[.int .i64 y] 2)) hg (fun p hp => .inr ?_)
  obtain ⟨cur, fz, hc⟩ := own_type (h.a.alloc (.cells #[.int .i64 y] 2)) hp
  exact ⟨cur, _, fz, hc, ne_ste64⟩
theorem Two19.second {w wr w2 w3 : World} {v1 v2 v1' v2' : Value} {m : Nat} {L : List Pck} {y : Int} {t : List UInt8} (h : Two19 w v1 v2 m L wr) (ho : w2.ownsRow w.heap.size 2 1 v1' (m + 1) (icells (L.map (·.1)) ++ [.int .i64 y]))
    (hb : Below w.heap.size w w2) (ho2 : w2.ownsRow w.heap.size 9 1 v2 m (tcells (L.map (·.2))))
    (ho3 : w3.ownsRow w.heap.size 9 1 v2' (m + 1) (tcells (L.map (·.2)) ++ [.string (txt t)]))
    (hg : (w2.alloc (.cells #[.string (txt t)] 9)).grownBy w3 v2.ownBlock) : Two19 w v1' v2' (m + 1) (L ++ [(y, t)]) w3 := by
  have b1 := hb.alloc hb.size (.cells #[.string (txt t)] 9)
  refine ⟨?_, ?_, b1.grown hg b1.size (fun p hp => (ho2.lt p hp).1)⟩
  · rw [List.map_append, List.map_singleton, icells_snoc]
    refine own_thN (ho.alloc (.cells #[.string (txt t)] 9)) hg (fun p hp => .inr ?_)
    obtain ⟨cur, fz, hc⟩ := own_type (ho2.alloc (.cells #[.string (txt t)] 9)) hp
    exact ⟨cur, _, fz, hc, ne_e64st⟩
  · rw [List.map_append, List.map_singleton, tcells_snoc]
    exact ho3

set_option maxRecDepth 100000 in
theorem rdrop_any19 (base g : Nat) (P B : Int) (D : List Pck) (vI vB : Value) (a : Nat) (w : World) (h : RRg base g P B D vI vB w) (hl : D.length ≤ 1000) (ha : a < D.length) :
    Calls Try.prog 23 #[.pointer (some ⟨g, 0, none⟩), .int .i64 a] w fun e w' => e = .returned (.tuple #[]) ∧ ∃ vI' vB', RRg w.heap.size g P B (D.eraseIdx a) vI' vB' w' ∧ w.grownBy w' (some g) := by
  obtain ⟨A, c, hvI⟩ := own_formN h.own
  obtain ⟨A', c', hvB⟩ := own_formN h.owb
  subst hvI; subst hvB
  have hgl := h.lt
  have hT := fun wx (hb : Below w.heap.size w wx) => h.below hb
  obtain ⟨n, hn⟩ : ∃ n, n = D.length := ⟨_, rfl⟩
  rw [← hn] at ha hl
  have HC : Hid (∀ wx, Below w.heap.size w wx → wx.cell? ⟨g, 2, none⟩ = some (.slice A n c) ∧ wx.cell? ⟨g, 3, none⟩ = some (.slice A' n c')) := Lib.hid fun wx hb => by rw [hn]; exact ⟨(hT wx hb).c2, (hT wx hb).c3⟩
  have HR : Hid (∃ b b', A = some ⟨b, 0, none⟩ ∧ A' = some ⟨b', 0, none⟩ ∧ ∀ wx, Below w.heap.size w wx → ∀ k (hk : k < D.length), wx.cell? ⟨b, k, none⟩ = some (.int .i64 D[k].1) ∧ wx.cell? ⟨b', k, none⟩ = some (.string (txt D[k].2))) := Lib.hid (by
    obtain ⟨b, d, hv, _, hlt, hc⟩ := own_ints h.own (by omega)
    obtain ⟨b', d', hv', _, hlt', hc'⟩ := own_txts h.owb (by omega)
    injection hv with e1 e2 e3
    injection hv' with f1 f2 f3
    refine ⟨b, b', e1, f1, fun wx hb k hk => ⟨?_, ?_⟩⟩
    · have e : (D.map (·.1)).getD k 0 = D[k].1 := by simp [List.getD, hk]
      rw [← e]
      exact (hb.cell (p := ⟨b, k, none⟩) hlt).trans (hc k hk)
    · have e : (D.map (·.2)).getD k [] = D[k].2 := by simp [List.getD, hk]
      rw [← e]
      exact (hb.cell (p := ⟨b', k, none⟩) hlt').trans (hc' k hk))
  have HT := Lib.hid hT
  have HN := Lib.hid hn
  have hc2 := (HC.out w (Below.refl _ _)).1
  clear h hT hn
  go_enter Try.func23, Try.ntmps23
  go_wp2
  go_loopw [4, 5, 6] (fun v1 v2 vi wr => ∃ (k m : Nat) (A1 A2 : Option Addr) (c1 c2 : Nat), k ≤ n ∧ m ≤ k ∧ v1 = .slice A1 m c1 ∧ v2 = .slice A2 m c2 ∧ vi = .int .i64 k ∧ Hid (Two19 w (.slice A1 m c1) (.slice A2 m c2) m ((D.take k).eraseIdx a) wr)) (fun _ _ i _ => n - (intOf i).toNat)
  case atStart => exact ⟨0, 0, none, none, 0, 0, by omega, by omega, rfl, rfl, rfl, Lib.hid ⟨by simpa [icells] using World.ownsRow_nil w _ _ _, by simpa [tcells] using World.ownsRow_nil w _ _ _, Below.refl _ _⟩⟩
  case round =>
    clear hc2
    obtain ⟨k, m, A1, A2, c1, c2, hk, hm, rfl, rfl, rfl, HL⟩ := hrel
    have hb0 := HL.out.below
    have hc2 := (HC.out wr hb0).1
    have hsz := hb0.size
    by_cases hlt : k < n
    · have hki : (k : Int) < (n : Int) := by omega
      have hkl : k < D.length := by rw [← HN.out]; exact hlt
      have hst := erase_next D a k hkl
      by_cases hka : k = a
      · subst hka
        rw [if_pos rfl, List.append_nil] at hst
        have HL2 : Hid (Two19 w (.slice A1 m c1) (.slice A2 m c2) m ((D.take (k + 1)).eraseIdx k) wr) := Lib.hid (by rw [hst]; exact HL.out)
        clear hst HL hkl hb0
        go_wp2
        go_roundw
        case rel => exact ⟨k + 1, m, A1, A2, c1, c2, by omega, by omega, rfl, rfl, by go_num, HL2⟩
        case measure => simp [intOf]; omega
      · rw [if_neg hka] at hst
        have hkb : ((k : Int) != (a : Int)) = true := by simp; omega
        obtain ⟨b, b', rfl, rfl, hcc⟩ := HR.out
        have hx := (hcc wr hb0 k hkl).1
        obtain ⟨p, hp⟩ : ∃ p, p = D[k] := ⟨_, rfl⟩
        rw [← hp] at hst hx
        have HX2 : Hid (∀ wx, Below w.heap.size w wx → wx.cell? ⟨b', k, none⟩ = some (.string (txt p.2))) := Lib.hid fun wx hb => by rw [hp]; exact (hcc wx hb k hkl).2
        obtain ⟨y, t⟩ := p
        simp only at hx HX2
        have HST := Lib.hid hst
        clear hp hcc hst hb0 hkl
        go_wp2_with (first
          | (at_builtin; refine wpList_appV rfl (.tmp 19) (.tmp 27) e64R rfl w.heap.size (.slice A1 m c1) m (icells (((D.take k).eraseIdx a).map (·.1))) rfl (HL.out.a.alloc _) wr.heap.size rfl [.int .i64 y] rfl (by simp [Value.oneCell']) (BlkV.new wr 2 [.int .i64 y]) (by omega) (by simp; omega) ?_; intro v1 w2 hown hg _; obtain ⟨A3, c3, hv3⟩ := own_formN hown; subst hv3; have K2 := HL.out.first hown hg; have hc3 := (HC.out w2 K2.1).2; have hx3 := HX2.out w2 K2.1; have hsz2 := K2.1.size; have HO := Lib.hid hown; have HK := Lib.hid K2; clear K2 hown hg)
          | (at_builtin; refine wpList_appV rfl (.tmp 29) (.tmp 37) estR rfl w.heap.size (.slice A2 m c2) m (tcells (((D.take k).eraseIdx a).map (·.2))) rfl (HK.out.2.alloc _) w2.heap.size rfl [.string (txt t)] rfl (by simp [Value.oneCell']) (BlkV.new w2 9 [.string (txt t)]) (by omega) (by simp; omega) ?_; intro v2 w3 hown3 hg3 _; obtain ⟨A4, c4, hv4⟩ := own_formN hown3; subst hv4; have HF := Lib.hid (HL.out.second HO.out HK.out.1 HK.out.2 hown3 hg3); clear hown3 hg3))
        go_roundw
        case rel => exact ⟨k + 1, m + 1, A3, A4, c3, c4, by omega, by omega, rfl, rfl, by go_num, Lib.hid (by rw [HST.out]; exact HF.out)⟩
        case measure => simp [intOf]; omega
    · obtain rfl : k = n := by omega
      have hB := (HT.out wr hb0).blk
      have hf2 := hB.frozen 2
      have hf3 := hB.frozen 3
      have hm2 : m = (D.eraseIdx a).length := by
        have := HL.out.a.1
        rw [List.take_of_length_le (by rw [← HN.out]; omega)] at this
        simpa [icells_len] using this.symm
      have HM := Lib.hid hm2
      have HTAKE : Hid (D.take k = D) := Lib.hid (List.take_of_length_le (by rw [← HN.out]; omega))
      clear hb0 hm2
      have hc3 : wr.cell? ⟨g, 3, none⟩ = some (.slice A' k c') := (HC.out wr HL.out.below).2
      go_wp2
      go_end0
      have e1 := ownsRow_setCell_below (ownsRow_setCell_below HL.out.a (a := ⟨g, 2, none⟩) hgl (.slice A1 m c1)) (a := ⟨g, 3, none⟩) hgl (.slice A2 m c2)
      have e2 := ownsRow_setCell_below (ownsRow_setCell_below HL.out.b (a := ⟨g, 2, none⟩) hgl (.slice A1 m c1)) (a := ⟨g, 3, none⟩) hgl (.slice A2 m c2)
      rw [HTAKE.out] at e1 e2
      refine ⟨rfl, .slice A1 m c1, .slice A2 m c2, ⟨(hB.set_ 2 _).set_ 3 _, by rw [← HM.out]; exact e1, by rw [← HM.out]; exact e2⟩, ?_⟩
      exact grown_then (grown_then (grown_of_below HL.out.below (some g)) ((Only.set wr g 2 _).grown) (fun p hp => .inr (by injection hp with hp; exact hp.symm))) ((Only.set _ g 3 _).grown) (fun p hp => .inr (by injection hp with hp; exact hp.symm))
end Go.Proofs.Ytjbeheegciacpaa
