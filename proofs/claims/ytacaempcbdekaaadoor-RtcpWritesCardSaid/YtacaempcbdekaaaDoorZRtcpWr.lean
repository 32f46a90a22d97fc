/- The walk of the statement RtcpWrites, over the package's table. No statement is proved here. -/
import Derived.Test.YtacaempcbdekaaaDoorZRtcpW1
import Derived.Test.YtacaempcbdekaaaDoorZH
import Derived.Test.YtacaempcbdekaaaDoorZE
namespace Go.Proofs.YtacaempcbdekaaaDoor
open Go.RowKit
set_option linter.unusedVariables false

theorem flat_fst (l : List Ctl) : (l.map fun c => (wr1 c, c)).flatMap (·.1) = wrL l := by
  induction l with
  | nil => rfl
  | cons a r ih => simp only [List.map_cons, List.flatMap_cons, wrL] at ih ⊢; rw [ih]
theorem map_snd (l : List Ctl) : (l.map fun c => (wr1 c, c)).map (·.2) = l := by
  induction l with
  | nil => rfl
  | cons a r ih => simp only [List.map_cons] at ih ⊢; rw [ih]
/-- What is written is read. -/
theorem read_wrL (l : List Ctl) (hok : wOK l) (hf : ∀ c ∈ l, c.fit) (A : Option Addr) (N c n : Nat) (w : World) (ht : Tab w) (hw : 0 < w.heap.size) (hn : l.length = n) (hN : N = (wrL l).length) (hr : RdS w A N c (wrL l)) :
    Calls Tryd.prog 10 #[.slice A N c] w fun r w' => ∃ A' c', r = .returned (.tuple #[.slice A' n c', .int .i64 0]) ∧ CtRds w' A' l ∧ Below w.heap.size w w' := by
  obtain ⟨⟨h1, h8⟩, hm, h1200⟩ := hok
  refine (read_ok (l.map fun c => (wr1 c, c)) A N c n w ht hw (by rw [List.length_map, hn]) (by omega) (by omega) (fun p hp => ?_) (by omega) (by rw [flat_fst]; exact hr)).mono ?_
  · obtain ⟨c, hc, rfl⟩ := List.mem_map.1 hp
    exact pk_any c (hf c hc) (hm c hc)
  · rintro r w' ⟨A', c', rfl, ho, hb⟩
    rw [map_snd] at ho
    exact ⟨A', c', rfl, ho.rds hn, hb⟩

set_option maxRecDepth 100000 in
set_option maxHeartbeats 2000000 in
theorem rtcpWrites_ok (A : Option Addr) (n c : Nat) (l : List Ctl) (w : World) (h : CtRds w A l) (hn : l.length = n) (hs : n ≤ 9223372036854775807) (hf : ∀ c ∈ l, c.fit) (ht : Tab w) (hw : 0 < w.heap.size) (hok : wOK l) :
    Calls Tryd.prog 3 #[.slice A n c] w fun e w' => e = .returned (.bool true) ∧ Below w.heap.size w w' := by
  have HA := Lib.hid (alive_any w ht hw)
  have HG : Hid (∀ W, Below w.heap.size w W → Calls Tryd.prog 7 #[.slice A n c] W (GreatTold l W)) := Lib.hid (fun W hb => great_any A n c l W (h.below hb) hn hs)
  obtain ⟨T, hT⟩ : ∃ T, T = wrL l := ⟨_, rfl⟩
  obtain ⟨N, hN⟩ : ∃ N, N = T.length := ⟨_, rfl⟩
  have HP : Hid (∀ W, Below w.heap.size w W → Calls Tryd.prog 8 #[.slice A n c] W fun e w' => ∃ A' c', e = .returned (.tuple #[.slice A' N c', .int .i64 0]) ∧ RdS w' A' N c' T ∧ Below W.heap.size W w') := Lib.hid (fun W hb => (write_any A n c l W (h.below hb) hn (ht.below hb hw) (Nat.lt_of_lt_of_le hw hb.size) hf).mono (by
    rintro e w' ⟨h1, _⟩
    obtain ⟨A', c', N', hN', rfl, h2, h3⟩ := h1 hok
    rw [← hT] at hN' h2
    rw [← hN] at hN'
    subst hN'
    exact ⟨A', c', rfl, h2, h3⟩))
  have HQ : Hid (∀ W, Below w.heap.size w W → Calls Tryd.prog 9 #[.slice A n c] W fun e w' => ∃ A' c', e = .returned (.tuple #[.slice A' N c', .bool true]) ∧ RdS w' A' N c' T ∧ Below W.heap.size W w') := Lib.hid (fun W hb => (rwrite_any A n c l W (h.below hb) hn hf).mono (by
    rintro e w' ⟨h1, _⟩
    obtain ⟨A', c', N', hN', rfl, h2, h3⟩ := h1 hok
    rw [← hT] at hN' h2
    rw [← hN] at hN'
    subst hN'
    exact ⟨A', c', rfl, h2, h3⟩))
  have HRD : Hid (∀ W A' c', Below w.heap.size w W → RdS W A' N c' T → Calls Tryd.prog 10 #[.slice A' N c'] W fun r w' => ∃ A2 c2, r = .returned (.tuple #[.slice A2 n c2, .int .i64 0]) ∧ CtRds w' A2 l ∧ Below W.heap.size W w') := Lib.hid (fun W A' c' hb hr => read_wrL l hok hf A' N c' n W (ht.below hb hw) (Nat.lt_of_lt_of_le hw hb.size) hn (by rw [hN, hT]) (by rw [← hT]; exact hr))
  have HSM : Hid (∀ W A2 c2, Below w.heap.size w W → CtRds W A2 l → Calls Tryd.prog 11 #[.slice A n c, .slice A2 n c2] W fun r w' => r = .returned (.bool true) ∧ Below W.heap.size W w') := Lib.hid (fun W A2 c2 hb hr => sames_yes A A2 n c c2 l W (h.below hb) hr hn (by have := hok.1.2; omega) (fun c hc => (hok.2.1 c hc).small))
  clear hT hN h hn hf ht hw hok hs
  go_enter Tryd.func3, Tryd.ntmps3
  go_wp2_with (first
    | (go_at_call 6; ((with_reducible refine (Hid.out HA).mono ?_); rintro e w1 ⟨rfl, hb1⟩; have f1 := Lib.hid hb1; clear hb1))
    | (go_at_call 7; ((with_reducible refine (Hid.out HG _ f1.out).mono ?_); rintro e w2 ⟨⟨b, rfl, hbf⟩, hb2⟩; have f2 := Lib.hid (f1.out.trans (hb2.mono f1.out.size)); clear hb2 hbf))
    | (go_at_call 8; ((with_reducible refine (Hid.out HP _ f2.out).mono ?_); rintro e w3 ⟨A3, c3, rfl, hr, hb3⟩; have r3 := Lib.hid hr; have f3 := Lib.hid (f2.out.trans (hb3.mono f2.out.size)); clear hb3 hr))
    | (go_at_call 9; ((with_reducible refine (Hid.out HQ _ f3.out).mono ?_); rintro e w4 ⟨A4, c4, rfl, hr, hb4⟩; have r4 := Lib.hid hr; have r34 := Lib.hid (r3.out.below hb4); have f4 := Lib.hid (f3.out.trans (hb4.mono f3.out.size)); clear hb4 hr))
    | (go_at_call 10; ((with_reducible refine (Hid.out HRD _ _ _ f4.out r34.out).mono ?_); rintro e w5 ⟨A5, c5, rfl, hr, hb5⟩; have k5 := Lib.hid hr; have f5 := Lib.hid (f4.out.trans (hb5.mono f4.out.size)); have v1 : (convert 25 9 (.slice A3 N c3)).run Tryd.prog w5 = .ok (.string (txt T)) w5 := run_conv (r34.out.below hb5) _ _ 5 Tryd.underlying25 Tryd.underlying5 Tryd.underlying9; have v2 : (convert 25 9 (.slice A4 N c4)).run Tryd.prog w5 = .ok (.string (txt T)) w5 := run_conv (r4.out.below hb5) _ _ 5 Tryd.underlying25 Tryd.underlying5 Tryd.underlying9; clear hb5 hr))
    | (go_at_call 11; ((with_reducible refine (Hid.out HSM _ _ _ f5.out k5.out).mono ?_); rintro e w6 ⟨rfl, hb6⟩; have f6 := Lib.hid (f5.out.trans (hb6.mono f5.out.size)); clear hb6)))
  all_goals go_ret
  all_goals first | exact ⟨rfl, f6.out⟩ | exact ⟨rfl, f2.out⟩

set_option maxRecDepth 100000 in
set_option maxHeartbeats 2000000 in
theorem rtcpWrites_no (A : Option Addr) (n c : Nat) (l : List Ctl) (w : World) (h : CtRds w A l) (hn : l.length = n) (hs : n ≤ 9223372036854775807) (hf : ∀ c ∈ l, c.fit) (ht : Tab w) (hw : 0 < w.heap.size) (hok : ¬ wOK l) :
    Calls Tryd.prog 3 #[.slice A n c] w fun e w' => e = .returned (.bool true) ∧ Below w.heap.size w w' := by
  have HA := Lib.hid (alive_any w ht hw)
  have HG : Hid (∀ W, Below w.heap.size w W → Calls Tryd.prog 7 #[.slice A n c] W (GreatTold l W)) := Lib.hid (fun W hb => great_any A n c l W (h.below hb) hn hs)
  have HP : Hid (∀ W, Below w.heap.size w W → Calls Tryd.prog 8 #[.slice A n c] W fun e w' => e = .returned (.tuple #[.slice none 0 0, .int .i64 1]) ∧ Below W.heap.size W w') := Lib.hid (fun W hb => (write_any A n c l W (h.below hb) hn (ht.below hb hw) (Nat.lt_of_lt_of_le hw hb.size) hf).mono (fun e w' hh => hh.2 hok))
  have HQ : Hid (∀ W, Below w.heap.size w W → Calls Tryd.prog 9 #[.slice A n c] W fun e w' => ∃ v, e = .returned (.tuple #[v, .bool false]) ∧ Below W.heap.size W w') := Lib.hid (fun W hb => (rwrite_any A n c l W (h.below hb) hn hf).mono (fun e w' hh => hh.2 hok))
  clear h hn hf ht hw hok hs
  go_enter Tryd.func3, Tryd.ntmps3
  go_wp2_with (first
    | (go_at_call 6; ((with_reducible refine (Hid.out HA).mono ?_); rintro e w1 ⟨rfl, hb1⟩; have f1 := Lib.hid hb1; clear hb1))
    | (go_at_call 7; ((with_reducible refine (Hid.out HG _ f1.out).mono ?_); rintro e w2 ⟨⟨b, rfl, hbf⟩, hb2⟩; have f2 := Lib.hid (f1.out.trans (hb2.mono f1.out.size)); clear hb2 hbf))
    | (go_at_call 8; ((with_reducible refine (Hid.out HP _ f2.out).mono ?_); rintro e w3 ⟨rfl, hb3⟩; have f3 := Lib.hid (f2.out.trans (hb3.mono f2.out.size)); clear hb3))
    | (go_at_call 9; ((with_reducible refine (Hid.out HQ _ f3.out).mono ?_); rintro e w4 ⟨v4, rfl, hb4⟩; have f4 := Lib.hid (f3.out.trans (hb4.mono f3.out.size)); clear hb4)))
  all_goals go_ret
  all_goals first | exact ⟨rfl, f4.out⟩ | exact ⟨rfl, f2.out⟩

theorem rtcpWrites_walk (A : Option Addr) (n c : Nat) (l : List Ctl) (w : World) (ht : Tab w ∧ 0 < w.heap.size) (h : CtRds w A l) (hn : l.length = n) (hs : n ≤ 9223372036854775807) (hf : ∀ c ∈ l, c.fit) :
    Calls Tryd.prog 3 #[.slice A n c] w fun e w' => e = .returned (.bool true) ∧ Below w.heap.size w w' := by
  by_cases hok : wOK l
  · exact rtcpWrites_ok A n c l w h hn hs hf ht.1 ht.2 hok
  · exact rtcpWrites_no A n c l w h hn hs hf ht.1 ht.2 hok
end Go.Proofs.YtacaempcbdekaaaDoor
