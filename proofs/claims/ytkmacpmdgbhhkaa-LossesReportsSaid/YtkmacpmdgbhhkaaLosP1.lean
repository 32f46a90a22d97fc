/- Contracts of package losses: what a keeper's blocks hold; whether a packet may be asked for; what the closures tell. No statement is proved here. -/
import Derived.Test.YtkmacpmdgbhhkaaLosNum
import Derived.Test.YtkmacpmdgbhhkaaTwoK
import Derived.Test.YtkmacpmdgbhhkaaMem
import Derived.BigQuiet
namespace Go.Proofs.Ytkmacpmdgbhhkaa
open Go.RowKit
set_option linter.unusedVariables false

/-- A packet that is missed: the block it lies in, its index, how often it was asked for, since when it waits, and how long. -/
structure Pk20 where
  q : Nat
  i : Int
  t : Int
  s : Int
  d : Int
def Pk20.mis (x : Pk20) : Mis := ⟨x.i, x.t, x.s + x.d⟩
def Pk20.c (x : Pk20) : List Value := [.int .i64 x.i, .int .i64 x.t, .int .i64 x.s, .int .i64 x.d]
def Pk20.p (x : Pk20) : Value := .pointer (some ⟨x.q, 0, none⟩)
def hiP20 (h : Int) : Int := if 0 ≤ h then h else 0
/-- Block g is the keeper s; its missed packets are X, their pointers lie in the slice (A, c); F are its blocks. -/
structure KAt (w : World) (g : Nat) (s : Kpr) (A : Option Addr) (c : Nat) (X : List Pk20) (F : Nat → Prop) : Prop where
  k : BlkV w g 56 [.int .i64 s.p, .bool (decide (0 ≤ s.h)), .int .i64 (hiP20 s.h), .slice A X.length c]
  row : w.ownsRow 0 60 1 (.slice A X.length c) X.length (X.map Pk20.p)
  pk : ∀ x ∈ X, BlkV w x.q 63 x.c
  bd : ∀ x ∈ X, (-9223372036854775808 ≤ x.s ∧ x.s ≤ 9223372036854775807) ∧ 0 ≤ x.d ∧ x.d ≤ 9223372036854775807
  eq : X.map Pk20.mis = s.M
  own : ∀ k, F k ↔ (k = g ∨ (Value.slice A X.length c).ownBlock = some k ∨ ∃ x ∈ X, k = x.q)
def T20 (w : World) (v : Value) (s : Kpr) (F : Nat → Prop) : Prop := ∃ g A c X, v = .pointer (some ⟨g, 0, none⟩) ∧ Hid (KAt w g s A c X F)
theorem T20.at_ {w : World} {q : Addr} {s : Kpr} {F : Nat → Prop} (h : T20 w (.pointer (some q)) s F) : ∃ g A c X, q = ⟨g, 0, none⟩ ∧ KAt w g s A c X F := by
  obtain ⟨g, A, c, X, h1, h2⟩ := h
  injection h1 with h1
  injection h1 with h1
  exact ⟨g, A, c, X, h1, h2.out⟩
theorem lone20 : Lone T20 where
  low := fun w p s F ⟨g, A, c, X, _, h⟩ k hk => by
    rcases (h.out.own k).1 hk with h1 | h1 | ⟨x, h1, h2⟩
    · rw [h1]; exact h.out.k.lt
    · exact (h.out.row.lt k h1).2
    · rw [h2]; exact (h.out.pk x h1).lt
  stay := fun w w2 p s F ⟨g, A, c, X, h0, h⟩ hz hk => ⟨g, A, c, X, h0, Lib.hid ⟨(hk _ ((h.out.own _).2 (.inl rfl))).trans h.out.k, own_at_same h.out.row (fun k h1 => hk k ((h.out.own k).2 (.inr (.inl h1)))), fun x hx => (hk _ ((h.out.own _).2 (.inr (.inr ⟨x, hx, rfl⟩)))).trans (h.out.pk x hx), h.out.bd, h.out.eq, h.out.own⟩⟩
theorem lenP20 {w : World} {g : Nat} {s : Kpr} {A : Option Addr} {c : Nat} {X : List Pk20} {F : Nat → Prop} (h : KAt w g s A c X F) (ok : KOk s) : X.length ≤ 32 := by
  have := congrArg List.length h.eq
  have := ok.len
  simp at *
  omega
theorem risP20 {X : List Pk20} {M : List Mis} (h : X.map Pk20.mis = M) (hr : M.Pairwise fun a b => a.i < b.i) : X.Pairwise fun a b => a.i < b.i := by
  rw [← h, List.pairwise_map] at hr
  exact hr
/-- Two packets in one block are one. -/
theorem KAt.inj {w : World} {g : Nat} {s : Kpr} {A : Option Addr} {c : Nat} {X : List Pk20} {F : Nat → Prop} (h : KAt w g s A c X F) {x y : Pk20} (hx : x ∈ X) (hy : y ∈ X) (e : x.q = y.q) : x = y := by
  have h1 := h.pk x hx
  have h2 := h.pk y hy
  rw [e] at h1
  have h3 := h1.symm.trans h2
  simp only [Pk20.c] at h3
  injection h3 with h3
  injection h3 with h3 _ _
  have h4 := Array.toList_inj.2 h3
  simp at h4
  cases x; cases y
  simp_all
theorem KAt.bdM {w : World} {g : Nat} {s : Kpr} {A : Option Addr} {c : Nat} {X : List Pk20} {F : Nat → Prop} (h : KAt w g s A c X F) (ok : KOk s) {x : Pk20} (hx : x ∈ X) : (0 ≤ x.i ∧ x.i < s.h) ∧ (0 ≤ x.t ∧ x.t ≤ 2) := by
  have h1 : x.mis ∈ s.M := by rw [← h.eq]; exact List.mem_map.2 ⟨x, hx, rfl⟩
  exact ⟨ok.bel _ h1, ok.t _ h1⟩

/-- How far b is above a. -/
theorem above_any20 (a b d : Int) (w : World) (hd : d = b - a) (h0 : 0 ≤ d) (ha : -9223372036854775808 ≤ a ∧ a ≤ 9223372036854775807) (hb : -9223372036854775808 ≤ b ∧ b ≤ 9223372036854775807) :
    Calls Try.prog 35 #[.int .i64 a, .int .i64 b] w fun e w' => e = .returned (.int .u64 d) ∧ w' = w := by
  have e1 : IntKind.u64.wrap (IntKind.u64.wrap b - IntKind.u64.wrap a) = d := by simp only [IntKind.wrap_u64]; omega
  obtain ⟨x, hx⟩ : ∃ x, IntKind.u64.wrap b = x := ⟨_, rfl⟩
  obtain ⟨y, hy⟩ : ∃ y, IntKind.u64.wrap a = y := ⟨_, rfl⟩
  rw [hx, hy] at e1
  clear hd
  go_enter Try.func35, Try.ntmps35
  go_wp2
  go_ret
  exact ⟨rfl, rfl⟩
set_option maxHeartbeats 1000000 in
theorem isDue_any20 (w : World) (x : Pk20) (tk : Int) (hx : BlkV w x.q 63 x.c) (hs : -9223372036854775808 ≤ x.s ∧ x.s ≤ 9223372036854775807) (hd : 0 ≤ x.d ∧ x.d ≤ 9223372036854775807) (ht : -9223372036854775808 ≤ tk ∧ tk ≤ 9223372036854775807) :
    Calls Try.prog 31 #[x.p, .int .i64 tk] w fun e w' => e = .returned (.bool (decide (x.s + x.d ≤ tk))) ∧ ∃ n, w' = w.drewN n := by
  obtain ⟨q, i, t, s, d⟩ := x
  simp only [Pk20.p, Pk20.c] at *
  have c2 : w.cell? ⟨q, 2, none⟩ = some (.int .i64 s) := (hx.cell 2).trans rfl
  have c3 : w.cell? ⟨q, 3, none⟩ = some (.int .i64 d) := (hx.cell 3).trans rfl
  have wd : IntKind.u64.wrap d = d := by rw [IntKind.wrap_u64]; omega
  clear hx
  by_cases h1 : s ≤ tk
  · obtain ⟨z, hz⟩ : ∃ z, z = tk - s := ⟨_, rfl⟩
    have HC := Lib.hid (fun wx => above_any20 s tk z wx hz (by omega) hs ht)
    by_cases h2 : d ≤ z
    · have e : decide (s + d ≤ tk) = true := by simp; omega
      rw [e]
      have g1 : (decide (s ≤ tk)) = true := by simp; omega
      have g2 : (decide (d ≤ z)) = true := by simp; omega
      clear hz e
      go_enter Try.func31, Try.ntmps31
      go_wp2
      go_quiet (first | (go_at_call 35; exact Calls.quiet_of_same ((Hid.out HC _).mono fun _ _ ⟨h, h2⟩ => ⟨h, h2⟩)))
      go_wp2
      go_ret
      exact ⟨rfl, _, rfl⟩
    · have e : decide (s + d ≤ tk) = false := by simp; omega
      rw [e]
      have g1 : (decide (s ≤ tk)) = true := by simp; omega
      have g2 : (decide (d ≤ z)) = false := by simp; omega
      clear hz e
      go_enter Try.func31, Try.ntmps31
      go_wp2
      go_quiet (first | (go_at_call 35; exact Calls.quiet_of_same ((Hid.out HC _).mono fun _ _ ⟨h, h2⟩ => ⟨h, h2⟩)))
      go_wp2
      go_ret
      exact ⟨rfl, _, rfl⟩
  · have e : decide (s + d ≤ tk) = false := by simp; omega
    rw [e]
    have g1 : (decide (s ≤ tk)) = false := by simp; omega
    clear e
    go_enter Try.func31, Try.ntmps31
    go_wp2
    go_quiet (fail)
    go_wp2
    go_ret
    exact ⟨rfl, _, rfl⟩
/-- The closures that tell which packets go. -/
theorem goes_is20 (w : World) (x : Pk20) (b : Nat) (i : Int) (hx : BlkV w x.q 63 x.c) (hb : w.cell? ⟨b, 0, none⟩ = some (.int .i64 i)) :
    Calls Try.prog 26 #[x.p, .pointer (some ⟨b, 0, none⟩)] w fun e w' => e = .returned (.bool (decide (x.i = i))) ∧ ∃ n, w' = w.drewN n := by
  obtain ⟨q, i', t, s, d⟩ := x
  simp only [Pk20.p, Pk20.c] at *
  have c0 : w.cell? ⟨q, 0, none⟩ = some (.int .i64 i') := (hx.cell 0).trans rfl
  clear hx
  go_enter Try.func26, Try.ntmps26
  go_wp2
  go_quiet (fail)
  go_wp2
  go_ret
  exact ⟨rfl, _, rfl⟩
theorem goes_below20 (w : World) (x : Pk20) (b : Nat) (i : Int) (hx : BlkV w x.q 63 x.c) (hb : w.cell? ⟨b, 0, none⟩ = some (.int .i64 i)) :
    Calls Try.prog 34 #[x.p, .pointer (some ⟨b, 0, none⟩)] w fun e w' => e = .returned (.bool (decide (x.i < i))) ∧ ∃ n, w' = w.drewN n := by
  obtain ⟨q, i', t, s, d⟩ := x
  simp only [Pk20.p, Pk20.c] at *
  have c0 : w.cell? ⟨q, 0, none⟩ = some (.int .i64 i') := (hx.cell 0).trans rfl
  clear hx
  go_enter Try.func34, Try.ntmps34
  go_wp2
  go_quiet (fail)
  go_wp2
  go_ret
  exact ⟨rfl, _, rfl⟩
theorem goes_thrice20 (w : World) (x : Pk20) (hx : BlkV w x.q 63 x.c) :
    Calls Try.prog 23 #[x.p] w fun e w' => e = .returned (.bool (decide (3 ≤ x.t))) ∧ ∃ n, w' = w.drewN n := by
  obtain ⟨q, i', t, s, d⟩ := x
  simp only [Pk20.p, Pk20.c] at *
  have c1 : w.cell? ⟨q, 1, none⟩ = some (.int .i64 t) := (hx.cell 1).trans rfl
  clear hx
  go_enter Try.func23, Try.ntmps23
  go_wp2
  go_ret
  exact ⟨rfl, 0, rfl⟩
end Go.Proofs.Ytkmacpmdgbhhkaa
