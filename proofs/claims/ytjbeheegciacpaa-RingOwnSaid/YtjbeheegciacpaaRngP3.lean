/- Contracts of package ring: New, Get, Len, Size, Indices. No statement is proved here. -/
import Derived.Test.YtjbeheegciacpaaRngP2
import Derived.Test.YtjbeheegciacpaaRngR2
namespace Go.Proofs.Ytjbeheegciacpaa
open Go.RowKit Go.Sort
set_option linter.unusedVariables false

theorem u8_infR : (Try.prog.info? 5).map (fun i => (i.zero, i.size, i.bytes)) = some (some (.int .u8 0), 1, 1) := by kernel_rfl
theorem dup19_any (A : Option Addr) (n c : Nat) (bs : List UInt8) (w : World) (hr : RdS w A n c bs) (hs : n ≤ 1000000000) :
    Calls Try.prog 25 #[.slice A n c] w fun e w' => ∃ A' c', e = .returned (.slice A' n c') ∧ Hid (w'.ownsRow w.heap.size 5 1 (.slice A' n c') n (cells bs) ∧ Below w.heap.size w w') := by
  go_enter Try.func25, Try.ntmps25
  go_wp2_with (at_builtin; refine wpList_append_rd _ rfl (.const (.slice none 0 0)) (.tmp 3) rfl Try.underlying31 u8_infR w.heap.size (.slice none 0 0) 0 [] rfl (World.ownsRow_nil w _ _ _) A n c bs rfl hr (by omega) (Nat.le_refl _) ?_; intro v1 w1 hown1 hg1 hat1)
  rw [Nat.zero_add, List.nil_append] at hown1
  obtain ⟨A', c', hv⟩ := own_form hown1
  subst hv
  go_ret
  exact ⟨A', c', rfl, Lib.hid ⟨hown1, below_of_grown hg1 (Nat.le_refl _) (fun k hk => by simp [Value.ownBlock] at hk)⟩⟩

theorem new19_no (P B : Int) (w : World) (h : P < 1 ∨ B < 0) : Calls Try.prog 8 #[.int .i64 P, .int .i64 B] w fun e w' => e = .returned (.pointer none) ∧ Below w.heap.size w w' := by
  by_cases h1 : P < 1
  · go_enter Try.func8, Try.ntmps8
    go_wp2
    go_ret
    exact ⟨rfl, Below.refl _ _⟩
  · have h2 : B < 0 := by omega
    clear h
    go_enter Try.func8, Try.ntmps8
    go_wp2
    go_ret
    exact ⟨rfl, Below.refl _ _⟩
theorem new19_ok (P B : Int) (w : World) (h1 : 1 ≤ P) (h2 : 0 ≤ B) (h3 : P ≤ 9223372036854775807) (h4 : B ≤ 9223372036854775807) : Calls Try.prog 8 #[.int .i64 P, .int .i64 B] w fun e w' => ∃ q F, e = .returned (.pointer (some q)) ∧ Hid (RT w' (.pointer (some q)) ⟨P, B, []⟩ F ∧ (∀ k, F k → w.heap.size ≤ k) ∧ Below w.heap.size w w') := by
  go_enter Try.func8, Try.ntmps8
  go_wp2
  go_ret
  refine ⟨⟨w.heap.size, 0, none⟩, fun k => k = w.heap.size, rfl, Lib.hid ⟨⟨w.heap.size, none, 0, [], rfl, ?_⟩, fun k hk => by rw [hk]; exact Nat.le_refl _, (Below.refl _ _).alloc (Nat.le_refl _) _⟩⟩
  exact ⟨BlkV.new_at _ _ _ _ _ rfl rfl, ⟨Nat.le_refl _, (by unfold maxLen; omega), (fun _ => rfl), (fun a ha => nomatch ha)⟩, rfl, (fun x hx => nomatch hx), (fun x hx => nomatch hx), rfl, (fun a ha => nomatch ha), (fun k hk => by rw [hk]; simp), (by simp), (by simp [sizD]), h1, h3, h2, h4⟩

theorem len19_any (w : World) (g : Nat) (s : Rgs) (A : Option Addr) (c : Nat) (X : List Pks) (F : Nat → Prop) (h : RAt w g s A c X F) :
    Calls Try.prog 15 #[.pointer (some ⟨g, 0, none⟩)] w fun e w' => e = .returned (.int .i64 (s.L.length : Nat)) ∧ ∃ q, w' = w.drewN q := by
  have hc := h.c2
  clear h
  go_enter Try.func15, Try.ntmps15
  go_wp2
  go_ret
  exact ⟨rfl, 0, rfl⟩
theorem size19_any (w : World) (g : Nat) (s : Rgs) (A : Option Addr) (c : Nat) (X : List Pks) (F : Nat → Prop) (h : RAt w g s A c X F) :
    Calls Try.prog 16 #[.pointer (some ⟨g, 0, none⟩)] w fun e w' => e = .returned (.int .i64 (sizD s.L : Nat)) ∧ ∃ q, w' = w.drewN q := by
  have hc := h.c3
  clear h
  go_enter Try.func16, Try.ntmps16
  go_wp2
  go_ret
  exact ⟨rfl, 0, rfl⟩

theorem get19_no (w : World) (g : Nat) (s : Rgs) (A : Option Addr) (c : Nat) (X : List Pks) (F : Nat → Prop) (i : Int) (h : RAt w g s A c X F) (hs : Srt s.L) (hi : i ∉ s.L.map (·.1)) :
    Calls Try.prog 13 #[.pointer (some ⟨g, 0, none⟩), .int .i64 i] w fun e w' => ∃ A n c, e = .returned (.tuple #[.slice A n c, .bool false]) ∧ Hid (Below w.heap.size w w') := by
  have hS := seek_any w g s A c X F i h hs
  rw [decide_eq_false hi] at hS
  obtain ⟨m, hm⟩ : ∃ m, m = lowL s.L i := ⟨_, rfl⟩
  rw [← hm] at hS
  have HS := Lib.hid hS
  clear hS h hs hi hm
  go_enter Try.func13, Try.ntmps13
  go_wp2_with (go_at_call 20; ((with_reducible refine HS.out.mono ?_); rintro e w1 ⟨rfl, hb⟩))
  go_ret2
  exact ⟨_, _, _, rfl, hb⟩
theorem get19_yes (w : World) (g : Nat) (s : Rgs) (A : Option Addr) (c : Nat) (X : List Pks) (F : Nat → Prop) (i : Int) (b : List UInt8) (h : RAt w g s A c X F) (hs : Srt s.L) (hi : (i, b) ∈ s.L) :
    Calls Try.prog 13 #[.pointer (some ⟨g, 0, none⟩), .int .i64 i] w fun e w' => ∃ A c, e = .returned (.tuple #[.slice A b.length c, .bool true]) ∧ Hid (w'.ownsRow w.heap.size 5 1 (.slice A b.length c) b.length (cells b) ∧ Below w.heap.size w w') := by
  have hS := seek_any w g s A c X F i h hs
  have him : i ∈ s.L.map (·.1) := List.mem_map.2 ⟨_, hi, rfl⟩
  rw [decide_eq_true him] at hS
  have hlen := h.len
  obtain ⟨hlt, hx⟩ := (low_there hs i).1 him
  have hp := srt_uniq hs (List.getElem_mem hlt) hi hx
  have hX : lowL s.L i < X.length := by omega
  have hxp : X[lowL s.L i].1 = (i, b) := by rw [← hp]; simp [← h.eq]
  have hrd := h.rd _ (List.getElem_mem hX)
  rw [hxp] at hrd
  simp only at hrd
  have hbl : b.length ≤ 1000000000 := by
    have h1 := h.small
    have h2 : b.length ≤ sizD s.L := by
      obtain ⟨l1, l2, e⟩ := List.append_of_mem hi
      rw [e, sizD_append, sizD_cons]
      simp only
      omega
    omega
  obtain ⟨b1, off, hA, hb1, hc0, hc1⟩ := h.row.at0 hX
  clear hc0
  rw [hxp] at hc1
  simp only at hc1
  have hc2 := h.c2
  rw [hA] at hc2
  have hgw := h.low _ h.own
  obtain ⟨m, hm⟩ : ∃ m, m = lowL s.L i := ⟨_, rfl⟩
  obtain ⟨A1, hA1⟩ : ∃ A1, A1 = (X[lowL s.L i]'hX).2.1 := ⟨_, rfl⟩
  obtain ⟨c1, hc1'⟩ : ∃ c1, c1 = (X[lowL s.L i]'hX).2.2 := ⟨_, rfl⟩
  rw [← hA1, ← hc1'] at hrd hc1
  rw [← hm] at hS hc1
  have hmi : (m : Int) < (s.L.length : Int) := by omega
  obtain ⟨n, hn⟩ : ∃ n, n = s.L.length := ⟨_, rfl⟩
  rw [← hn] at hmi hc2
  have HC : Hid (∀ wx, Below w.heap.size w wx → wx.cell? ⟨g, 2, none⟩ = some (.slice (some ⟨b1, off, none⟩) n c) ∧ wx.cell? ⟨b1, off + m * 2 + 1, none⟩ = some (.slice A1 b.length c1) ∧ RdS wx A1 b.length c1 b) := Lib.hid fun wx hb => ⟨(hb.cell (p := ⟨g, 2, none⟩) hgw).trans hc2, (hb.cell (p := ⟨b1, off + m * 2 + 1, none⟩) hb1).trans hc1, hrd.below hb⟩
  have HS := Lib.hid hS
  obtain ⟨nb, hnb⟩ : ∃ nb, nb = b.length := ⟨_, rfl⟩
  rw [← hnb] at HC hbl ⊢
  clear hS h hs hi hm hlen hx hp hX hxp hrd hA hb1 hc1 hc2 hgw hA1 hc1' hn him hlt hnb
  go_enter Try.func13, Try.ntmps13
  go_wp2_with (first
    | (go_at_call 20; ((with_reducible refine HS.out.mono ?_); rintro e w1 ⟨rfl, hb⟩; obtain ⟨k1, k2, k3⟩ := HC.out w1 hb.out; have HD := Lib.hid (dup19_any A1 nb c1 b w1 k3 hbl); clear k3))
    | (go_at_call 25; ((with_reducible refine HD.out.mono ?_); rintro e w2 ⟨A2, c2, rfl, hh⟩)))
  go_ret2
  exact ⟨A2, c2, rfl, Lib.hid ⟨own_moN hh.out.1 hb.out.size, hb.out.trans (hh.out.2.mono hb.out.size)⟩⟩

theorem putNil19 (w : World) (i : Int) (A : Option Addr) (n c : Nat) : Calls Try.prog 11 #[.pointer none, .int .i64 i, .slice A n c] w fun e w' => e = .returned (.int .i64 1) ∧ Hid (Below w.heap.size w w') := by
  go_enter Try.func11, Try.ntmps11
  go_wp2
  go_ret
  exact ⟨rfl, Lib.hid (Below.refl _ _)⟩
theorem getNil19 (w : World) (i : Int) : Calls Try.prog 13 #[.pointer none, .int .i64 i] w fun e w' => ∃ A n c, e = .returned (.tuple #[.slice A n c, .bool false]) ∧ Hid (Below w.heap.size w w') := by
  go_enter Try.func13, Try.ntmps13
  go_wp2
  go_ret2
  exact ⟨_, _, _, rfl, Lib.hid (Below.refl _ _)⟩
theorem lenNil19 (w : World) : Calls Try.prog 15 #[.pointer none] w fun e w' => e = .returned (.int .i64 0) ∧ Hid (Below w.heap.size w w') := by
  go_enter Try.func15, Try.ntmps15
  go_wp2
  go_ret
  exact ⟨rfl, Lib.hid (Below.refl _ _)⟩
theorem sizeNil19 (w : World) : Calls Try.prog 16 #[.pointer none] w fun e w' => e = .returned (.int .i64 0) ∧ Hid (Below w.heap.size w w') := by
  go_enter Try.func16, Try.ntmps16
  go_wp2
  go_ret
  exact ⟨rfl, Lib.hid (Below.refl _ _)⟩
theorem indicesNil19 (w : World) : Calls Try.prog 18 #[.pointer none] w fun e w' => ∃ A c, e = .returned (.slice A 0 c) ∧ Hid (Below w.heap.size w w') := by
  go_enter Try.func18, Try.ntmps18
  go_wp2
  go_ret
  exact ⟨_, _, rfl, Lib.hid (Below.refl _ _)⟩
theorem forgetNil19 (w : World) (i : Int) : Calls Try.prog 9 #[.pointer none, .int .i64 i] w fun e w' => e = .returned (.int .i64 0) ∧ Hid (Below w.heap.size w w') := by
  go_enter Try.func9, Try.ntmps9
  go_wp2
  go_ret
  exact ⟨rfl, Lib.hid (Below.refl _ _)⟩
end Go.Proofs.Ytjbeheegciacpaa
