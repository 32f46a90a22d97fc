/- Contracts of package rtcp: whether a text is a name. No statement is proved here. -/
import Derived.Test.YtacaempcbdekaaaDoorRtcpR1
import Derived.Laws.RangeString
import Derived.Laws.RangeAny
namespace Go.Proofs.YtacaempcbdekaaaDoor
open Go.RowKit
set_option linter.unusedVariables false

theorem iter_below (w : World) (s : ByteArray) (p : Nat) : Below w.heap.size w (w.iter s p) := (Below.refl _ _).alloc (Nat.le_refl _) _

set_option maxRecDepth 100000 in
set_option maxHeartbeats 1000000 in
theorem isname_any (s : ByteArray) (w : World) : Calls Tryd.prog 12 #[.string s] w fun e w' => NameTold s e ∧ Below w.heap.size w w' := by
  obtain ⟨n, hn⟩ : ∃ n, n = s.size := ⟨_, rfl⟩
  by_cases h1 : s.size < 1
  · go_enter Tryd.func12, Tryd.ntmps12
    go_wp2
    go_ret
    exact ⟨NameTold.no (fun hp => by have := hp.1; have := hp.2.1; omega), Below.refl _ _⟩
  · by_cases h2 : 16 < s.size
    · go_enter Tryd.func12, Tryd.ntmps12
      go_wp2
      go_ret
      exact ⟨NameTold.no (fun hp => by have := hp.1; have := hp.2.1; omega), Below.refl _ _⟩
    · go_enter Tryd.func12, Tryd.ntmps12
      go_wp2
      go_loopw [] (fun w' => ∃ (pos : Nat), w' = w.iter s pos ∧ pos ≤ s.size ∧ Hid (∀ j (hj : j < s.size), j < pos → 33 ≤ (s[j]'hj).toNat ∧ (s[j]'hj).toNat ≤ 126)) (fun w' => s.size - w'.iterPos w.heap.size)
      case atStart => exact ⟨0, rfl, by omega, Lib.hid fun j hj h0 => absurd h0 (by omega)⟩
      case round =>
        obtain ⟨pos, rfl, hp, HP⟩ := hrel
        by_cases hps : pos < s.size
        · have hnx : ∀ ty, (Instr.next (.pointer (some ⟨w.heap.size, 0, none⟩)) true ty).run Tryd.prog (w.iter s pos) = _ := fun ty => run_next_any w s pos ty hps
          have hV : Hid (((Utf8.decode s pos).1 < 128 → (s[pos]'hps).toNat = (Utf8.decode s pos).1 ∧ (Utf8.decode s pos).2 = 1) ∧ (128 ≤ (Utf8.decode s pos).1 → 128 ≤ (s[pos]'hps).toNat)) := Lib.hid (by
            by_cases ha : (s[pos]'hps).toNat < 128
            · rw [decode_ascii s pos hps ha]; exact ⟨fun _ => ⟨rfl, rfl⟩, fun h => by omega⟩
            · have h3 := decode_high s pos hps (by omega)
              exact ⟨fun h => by omega, fun _ => by omega⟩)
          have hle := decode_le s pos
          obtain ⟨v, hv⟩ : ∃ v, v = (Utf8.decode s pos).1 := ⟨_, rfl⟩
          obtain ⟨d, hd⟩ : ∃ d, d = (Utf8.decode s pos).2 := ⟨_, rfl⟩
          rw [← hv, ← hd] at hV hnx
          rw [← hv] at hle
          clear hv hd
          have e1 : IntKind.i32.wrap (v : Int) = (v : Int) := by rw [IntKind.wrap_i32]; omega
          by_cases g1 : v < 33
          · have HN : Hid (¬ nameP s) := Lib.hid fun hp2 => by have := hp2.2.2 pos hps; have := hV.out.1 (by omega); omega
            go_wp2
            go_ret
            exact ⟨NameTold.no HN.out, iter_below _ _ _⟩
          · by_cases g2 : 126 < v
            · have HN : Hid (¬ nameP s) := Lib.hid fun hp2 => by
                have := hp2.2.2 pos hps
                by_cases hh : v < 128
                · have := hV.out.1 hh; omega
                · have := hV.out.2 (by omega); omega
              go_wp2
              go_ret
              exact ⟨NameTold.no HN.out, iter_below _ _ _⟩
            · have HQ : Hid (d = 1 ∧ ∀ j (hj : j < s.size), j < pos + 1 → 33 ≤ (s[j]'hj).toNat ∧ (s[j]'hj).toNat ≤ 126) := Lib.hid (by
                have hh := hV.out.1 (by omega)
                refine ⟨hh.2, fun j hj h3 => ?_⟩
                rcases Nat.lt_or_ge j pos with h4 | h4
                · exact HP.out j hj h4
                · obtain rfl : j = pos := by omega
                  rw [hh.1]; omega)
              obtain rfl := HQ.out.1
              go_wp2
              go_roundw
              case rel => exact ⟨pos + 1, rfl, by omega, Lib.hid HQ.out.2⟩
              case measure => simp; omega
        · have hnx : ∀ ty, (Instr.next (.pointer (some ⟨w.heap.size, 0, none⟩)) true ty).run Tryd.prog (w.iter s pos) = _ := fun ty => run_next_end w s pos ty hps
          obtain rfl : pos = s.size := by omega
          go_wp2
          go_ret
          exact ⟨NameTold.yes ⟨by omega, by omega, fun j hj => HP.out j hj hj⟩, iter_below _ _ _⟩
end Go.Proofs.YtacaempcbdekaaaDoor
