/- Contracts of package losses: Ask. No statement is proved here. -/
import Derived.Test.YtkmacpmdgbhhkaaLosP9
namespace Go.Proofs.Ytkmacpmdgbhhkaa
open Go.RowKit
set_option linter.unusedVariables false
attribute [local go_sem] Oper.semAt_some

theorem seq_any20 (i : Int) (q : Nat) (hq : q = (i % 65536).toNat) (w : World) : Calls Try.prog 20 #[.int .i64 i] w fun e w' => e = .returned (.int .u16 (q : Int)) ∧ w' = w := by
  have e : IntKind.u16.wrap i = (q : Int) := by rw [IntKind.wrap_u16]; omega
  clear hq
  go_enter Try.func20, Try.ntmps20
  go_wp2
  go_ret
  exact ⟨rfl, rfl⟩
theorem RdH.fr20 {w w' : World} {A : Option Addr} {n : Nat} {F : Nat → Prop} {L : List Nat} (h : RdH w A n L) (hf : Fr F w w') (hn : ∀ ad, A = some ad → ¬ F ad.block) : RdH w' A n L := by
  refine ⟨h.1, h.2.1, h.2.2.1, fun h0 => ?_⟩
  obtain ⟨b, off, hA, hlt, hc⟩ := h.2.2.2 h0
  exact ⟨b, off, hA, Nat.lt_of_lt_of_le hlt hf.size, fun j hj => (hf.cell (a := ⟨b, off + j, none⟩) hlt (hn ⟨b, off, none⟩ hA)).trans (hc j hj)⟩
/-- What stood in a row of numbers still reads, whatever was put behind it. -/
theorem RdH.kept20 {w w2 : World} {base n nc : Nat} {NA : Option Addr} {L : List Nat} (h : w.ownsRow base 33 1 (.slice NA n nc) n (hcells L)) (hL : ∀ x ∈ L, x < 65536) (hn : n ≤ 1000000) (hz : w.heap.size ≤ w2.heap.size) (hold : ∀ g, (Value.slice NA n nc).ownBlock = some g → ∀ j, j < n → w2.cell? ⟨g, j, none⟩ = w.cell? ⟨g, j, none⟩) : RdH w2 NA n L := by
  obtain ⟨h1, h2, h3, h4⟩ := RdH.of_own h hL
  refine ⟨h1, h2, h3, fun h0 => ?_⟩
  obtain ⟨gg, c3, hv, _, hlt⟩ := h.form h0
  injection hv with hv _ _
  subst hv
  obtain ⟨b, off, e, _, hc⟩ := h4 h0
  injection e with e
  injection e with e1 e2 _
  subst e1
  subst e2
  exact ⟨gg, 0, rfl, by omega, fun j hj => by
    have h5 := hold gg rfl j hj
    have h6 := hc j hj
    rw [Nat.zero_add] at h6 ⊢
    rw [h5]; exact h6⟩
theorem BlkV.kp20b {w w2 : World} {g : Nat} {e : TypeId} {cs : List Value} (h : BlkV w g e cs) (hb : Below w.heap.size w w2) : BlkV w2 g e cs := h.below hb h.lt
/-- A round's slots. -/
def frA20 (B g : Nat) (tk : Int) (p : Value) : Array Value :=
  #[.pointer (some ⟨g, 0, none⟩), .int .i64 tk, .pointer (some ⟨B, 0, none⟩), .pointer (some ⟨B + 1, 0, none⟩), .slice none 0 0, .pointer (some ⟨B + 1 + 1, 0, none⟩), p, undef, .pointer (some ⟨g, 0, none⟩), .bool false,
    .pointer (some ⟨g, 0, none⟩), .int .i64 tk, .func (.func 30) #[] #[.pointer (some ⟨B + 1 + 1 + 1, 0, none⟩), .pointer (some ⟨B + 1 + 1 + 1 + 1, 0, none⟩)], p,
    undef, undef, undef, undef, undef, undef, undef, undef, undef, undef, undef, undef, undef, undef, undef, undef, undef, undef, undef, undef, undef, undef, undef, undef, undef, undef, undef, undef, undef, undef, undef, undef, undef, undef, undef]
def AxA20 (B g : Nat) (tk : Int) (x : Pk20) (a : Act) (_ : World) : Prop := a = { tmps := frA20 B g tk x.p, defers := [] }
/-- The numbers that are asked stand in a row of the call's own. -/
def NumO20 (w : World) (pre : List Pk20) (W : World) : Prop := ∃ (NA : Option Addr) (n nc : Nat), n = pre.length ∧ BlkV W (w.heap.size + 1 + 1) 43 [.slice NA n nc] ∧ W.ownsRow w.heap.size 33 1 (.slice NA n nc) n (hcells (pre.map Pk20.sq))
def NumR20 (w : World) (pre : List Pk20) (W : World) : Prop := ∃ (NA : Option Addr) (n nc : Nat), n = pre.length ∧ BlkV W (w.heap.size + 1 + 1) 43 [.slice NA n nc] ∧ RdH W NA n (pre.map Pk20.sq) ∧ ∀ ad, NA = some ad → w.heap.size ≤ ad.block
section
variable (w : World) (g : Nat) (s : Kpr) (A : Option Addr) (c : Nat) (X : List Pk20) (F : Nat → Prop) (tk : Int)
def IA20 (pre : List Pk20) (W : World) : Prop := Asp20 w g s A c X F tk pre W ∧ NumO20 w pre W
/-- What the loop leaves. -/
def LoopEnd20 (W : World) : Prop := ∃ pre, Asp20 w g s A c X F tk pre W ∧ NumR20 w pre W ∧ askN ((X.filter (Pk20.due tk)).map Pk20.sq) [] = pre.length
def IxA20 (cd : Code) (_ : List Pk20) (W : World) : Prop := cd = .exit 0 ∧ LoopEnd20 w g s A c X F tk W
end
section
variable {w : World} {g : Nat} {s : Kpr} {A : Option Addr} {c : Nat} {X : List Pk20} {F : Nat → Prop} {tk : Int}
theorem IA20.calm {B : Nat} (hB : w.heap.size ≤ B) (pre : List Pk20) : Calm B (IA20 w g s A c X F tk pre) := fun W W2 ⟨h1, NA, n, nc, h2, h3, h4⟩ hT => ⟨h1.turn hT hB, NA, n, nc, h2, h3.turn hT, own_turn h4 hT⟩
theorem IxA20.calm {B : Nat} (hB : w.heap.size ≤ B) (cd : Code) (pre : List Pk20) : Calm B (IxA20 w g s A c X F tk cd pre) := fun W W2 ⟨h0, pre, h1, ⟨NA, n, nc, h2, h3, h4, h6⟩, h5⟩ hT => ⟨h0, pre, h1.turn hT hB, ⟨NA, n, nc, h2, h3.turn hT, h4.turn hT, h6⟩, h5⟩
end
set_option maxRecDepth 100000 in
set_option maxHeartbeats 2000000 in
theorem ask_any20 (w : World) (g : Nat) (s : Kpr) (A : Option Addr) (c : Nat) (X : List Pk20) (F : Nat → Prop) (tk : Int) (h : KAt w g s A c X F) (ok : KOk s) (h2 : s.p ≤ 1000000000) (ht : -4611686018427387904 ≤ tk ∧ tk ≤ 4611686018427387904) :
    Calls Try.prog 11 #[.pointer (some ⟨g, 0, none⟩), .int .i64 tk] w fun e w' => ∃ A2 c2, e = .returned (.slice A2 (lsL (askK s tk).2).length c2) ∧ Hid (RdL w' A2 (lsL (askK s tk).2).length (lsL (askK s tk).2) ∧ StpB T20 (.pointer (some ⟨g, 0, none⟩)) (askK s tk).1 F (BlkOf A2 (lsL (askK s tk).2).length) w w') := by
  have hz16 : ∀ w : World, (zeroValue 43).run Try.prog w = .ok (.slice none 0 0) w := fun w => by kernel_rfl
  have hris := risP20 h.eq ok.ris
  have hfew := lenP20 h ok
  have HRIS := Lib.hid hris
  have hlow := h.low
  have HIN := Lib.hid (fun x hx y hy (e : x.q = y.q) => h.inj (x := x) (y := y) hx hy e)
  have HFQ : Hid (∀ x ∈ X, F x.q) := Lib.hid (fun x hx => (h.own _).2 (.inr (.inr ⟨x, hx, rfl⟩)))
  have HKA := Lib.hid (h.asp (tk := tk) (.slice none 0 0))
  have HIT := Lib.hid (fun W => due_iter20 A c X tk (w.heap.size + 1 + 1 + 1) (w.heap.size + 1 + 1 + 1 + 1) g W hris (by omega) (by omega) h.bd)
  have HP : Hid (∀ x ∈ X, (0 ≤ x.i ∧ x.i < s.h) ∧ (0 ≤ x.t ∧ x.t ≤ 2)) := Lib.hid (fun x hx => h.bdM ok hx)
  have HH := Lib.hid h
  have HOK := Lib.hid ok
  clear h ok hlow hris
  refine (callsIn_wide (n := 2)).1 ?_
  refine callsIn_of_wp_marks Try.func11 rfl trivial ?_ rfl
  simp only [Try.ntmps11, List.size_toArray, List.length_cons, List.length_nil, Nat.reduceAdd, Nat.reduceSub, Array.replicate_succ, Array.replicate_zero, List.push_toArray, List.append_toArray, List.nil_append, List.cons_append]
  refine wpIn_wide.2 ?_
  go_wp2_with (go_at_call 19; ((with_reducible refine (due_any20 _ _ _).mono ?_); rintro e w' ⟨rfl, rfl⟩))
  refine (wpIn_wide (n := 2)).1 ?_
  obtain ⟨WB, hWB⟩ : ∃ WB, WB = (((((w.alloc (.cells #[.pointer (some ⟨g, 0, none⟩)] 24)).alloc (.cells #[.int .i64 tk] 2)).alloc (.cells #[.slice none 0 0] 43)).alloc (.cells #[.pointer (some ⟨g, 0, none⟩)] 24)).alloc (.cells #[.int .i64 tk] 2)) := ⟨_, rfl⟩
  have hsz : w.heap.size ≤ WB.heap.size := by rw [hWB]; simp; omega
  have hstart : IA20 w g s A c X F tk [] WB := ⟨by rw [hWB]; exact HKA.out, none, 0, 0, rfl, by rw [hWB]; exact ((BlkV.new_at _ _ _ [.slice none 0 0] _ (by simp) rfl).alloc _).alloc _, World.ownsRow_nil _ _ _ _⟩
  rw [← hWB]
  clear hWB HKA
  refine rng_lawF (gf := 30) (lb := #[.pointer (some ⟨w.heap.size + 1 + 1 + 1, 0, none⟩), .pointer (some ⟨w.heap.size + 1 + 1 + 1 + 1, 0, none⟩)]) rfl (enters_of Try.func30 (by kernel_rfl) rfl) (HIT.out WB) (Below.refl _ _)
    (fun x args W h => (by rw [show args = _ from h]; rfl)) (IA20 w g s A c X F tk) (IxA20 w g s A c X F tk) (IA20.calm hsz) (IxA20.calm hsz) hstart (fun pre W hI => hI.1.fit HRIS.out) (AxA20 w.heap.size g tk) (fun x a2 W W2 h _ => h) ?assign ?body ?done ?stop
  case assign =>
    intro l pre x args W K hI hok henc hK
    rw [show args = #[x.p] from henc]
    clear hI hok henc
    gi_wp2
    exact hK _ _ (Below.refl _ _) rfl
  case body =>
    rintro l pre x a2 W ⟨hA, NA, n, nc, hn, hNB, hNO⟩ hok rfl
    simp only [frA20]
    obtain ⟨hx, hnx, hxb⟩ := hA.next HRIS.out hok
    have hti := HP.out x hx
    have hnf : n ≤ 32 := by
      have h1 := congrArg List.length hA.took
      have h3 : (X.filter (Pk20.due tk)).length ≤ X.length := List.length_filter_le _ _
      rw [List.length_take] at h1
      omega
    have hKq : Hid (∀ W2, Only x.q W W2 → True) := Lib.hid (fun _ _ => trivial)
    have HHAND := Lib.hid (fun (W2 W3 : World) (k : Kp20 w.heap.size W W2) (h16 : ¬ 16 < (lsL (pre.map Pk20.sq ++ [x.sq])).length) (ho : Only x.q W2 W3) (hB : BlkV W3 x.q 63 (x.asked s.p tk).c) => (hA.kp k).hand HRIS.out hok h16 (HFQ.out x hx) (fun y hy e => HIN.out x hx y hy e) ho hB)
    have HSTOP := Lib.hid (fun h16 => hA.stops hok h16)
    have HA := Lib.hid hA
    have HXB := Lib.hid hxb
    have HNB := Lib.hid hNB
    have HNO := Lib.hid hNO
    have HN := Lib.hid hn
    have hne1 : ¬ w.heap.size + 1 + 1 = x.q := blk_ne20 hNB hxb (by decide)
    have hne2 : ¬ x.q = w.heap.size + 1 + 1 := fun e => hne1 e.symm
    have hne3 : ¬ w.heap.size = x.q := blk_ne20 hA.b0 hxb (by decide)
    have hne4 : ¬ w.heap.size + 1 = x.q := blk_ne20 hA.b1 hxb (by decide)
    have hne5 : ¬ g = x.q := blk_ne20 hA.k hxb (by decide)
    obtain ⟨S, hS⟩ : ∃ S, S = pre.map Pk20.sq := ⟨_, rfl⟩
    have hsl : S.length = n := by rw [hS, List.length_map, hn]
    have hs16 : ∀ y ∈ S, y < 65536 := by rw [hS]; exact sq_lt20 pre
    rw [← hS] at HNO HHAND HSTOP
    have HS := Lib.hid hS
    obtain ⟨q, hq⟩ : ∃ q, q = x.sq := ⟨_, rfl⟩
    have hqi : q = (x.i % 65536).toNat := hq
    have hq16 : q < 65536 := by omega
    have HQI := Lib.hid hqi
    rw [← hq] at HHAND HSTOP
    obtain ⟨xq, xi, xt, xs, xd⟩ := x
    simp only [Pk20.p, Pk20.asked, Pk20.c] at *
    have r1 : W.drew.cell? ⟨w.heap.size + 1 + 1, 0, none⟩ = some (.slice NA n nc) := (HNB.out.cell 0).trans rfl
    have r2 : W.drew.cell? ⟨xq, 0, none⟩ = some (.int .i64 xi) := (HXB.out.cell 0).trans rfl
    clear hA hxb hNB hNO hn hS hq hok hqi hx hnx hstart HFQ HIN hKq HIT
    gi_wp2
    refine in_drawn (wide_in _) (fun wz => wz.cell? ⟨w.heap.size + 1 + 1, 0, none⟩ = some (.slice NA n nc) ∧ wz.cell? ⟨xq, 0, none⟩ = some (.int .i64 xi)) (by kernel_rfl) (by kernel_rfl) ?_
    have hS0 : W.drew.cell? ⟨w.heap.size + 1 + 1, 0, none⟩ = some (.slice NA n nc) ∧ W.drew.cell? ⟨xq, 0, none⟩ = some (.int .i64 xi) := ⟨r1, r2⟩
    refine wpAnyH_take (i := 0) (v := ?_) rfl (by kernel_rfl) (by kernel_rfl) (by kernel_rfl) (fun _ _ _ h => (nomatch h.1)) (Or.inl ⟨by rfl, ?_⟩) hS0 ?_
    case refine_2 => (intro wz hz; have hq := hz.1; go_simp; with_reducible rfl)
    simp only [Act.put, List.getElem_toArray, List.getElem_cons_zero, List.setIfInBounds_toArray, List.set_cons_succ, List.set_cons_zero]
    refine wpAnyH_take (i := 1) (v := ?_) rfl (by kernel_rfl) (by kernel_rfl) (by kernel_rfl) (fun _ _ _ h => (nomatch h.1)) (Or.inl ⟨by rfl, ?_⟩) hS0 ?_
    case refine_2 => (intro wz hz; go_simp; with_reducible rfl)
    simp only [Act.put, List.getElem_toArray, List.getElem_cons_succ, List.getElem_cons_zero, List.setIfInBounds_toArray, List.set_cons_succ, List.set_cons_zero]
    refine wpAnyH_take (i := 2) (v := ?_) rfl (by kernel_rfl) (by kernel_rfl) (by kernel_rfl) (fun _ _ _ h => (nomatch h.1)) (Or.inl ⟨by rfl, ?_⟩) hS0 ?_
    case refine_2 => (intro wz hz; go_simp; with_reducible rfl)
    simp only [Act.put, List.getElem_toArray, List.getElem_cons_succ, List.getElem_cons_zero, List.setIfInBounds_toArray, List.set_cons_succ, List.set_cons_zero]
    refine wpAnyH_take (i := 3) (v := ?_) rfl (by kernel_rfl) (by kernel_rfl) (by kernel_rfl) (fun _ _ _ h => (nomatch h.1)) (Or.inl ⟨by rfl, ?_⟩) hS0 ?_
    case refine_2 => (intro wz hz; go_simp; with_reducible rfl)
    simp only [Act.put, List.getElem_toArray, List.getElem_cons_succ, List.getElem_cons_zero, List.setIfInBounds_toArray, List.set_cons_succ, List.set_cons_zero]
    refine wpAnyH_take (i := 4) (v := ?_) rfl (by kernel_rfl) (by kernel_rfl) (by kernel_rfl) (fun _ _ _ h => (nomatch h.1)) (Or.inl ⟨by rfl, ?_⟩) hS0 ?_
    case refine_2 => (intro wz hz; have hq := hz.2; go_simp; with_reducible rfl)
    simp only [Act.put, List.getElem_toArray, List.getElem_cons_succ, List.getElem_cons_zero, List.setIfInBounds_toArray, List.set_cons_succ, List.set_cons_zero]
    refine anyH_one (i := 5) (by kernel_rfl) rfl rfl (fun H hH => ?_)
    simp only [List.getElem_toArray, List.getElem_cons_succ, List.getElem_cons_zero]
    go_simp
    refine (seq_any20 xi q HQI.out _).mono ?_
    rintro e w4 ⟨rfl, rfl⟩
    refine hH _ _ hS0 ?_
    clear hH H
    refine anyH_one (i := 6) (by kernel_rfl) rfl rfl (fun H hH => ?_)
    simp only [List.getElem_toArray, List.getElem_cons_succ, List.getElem_cons_zero]
    go_simp
    have hSa : (W.alloc (.cells #[.int .u16 (q : Int)] 33)).drew.cell? ⟨w.heap.size + 1 + 1, 0, none⟩ = some (.slice NA n nc) ∧ (W.alloc (.cells #[.int .u16 (q : Int)] 33)).drew.cell? ⟨xq, 0, none⟩ = some (.int .i64 xi) := ⟨((HNB.out.alloc _).drew.cell 0).trans rfl, ((HXB.out.alloc _).drew.cell 0).trans rfl⟩
    have hOa : (W.alloc (.cells #[.int .u16 (q : Int)] 33)).drew.ownsRow w.heap.size 33 1 (.slice NA n nc) n (hcells S) := own_at_same (HNO.out.alloc _) (fun _ _ => rfl)
    refine hH _ _ hSa ?_
    clear hH H
    refine anyH_one (i := 7) (by kernel_rfl) rfl rfl (fun H hH => ?_)
    simp only [List.getElem_toArray, List.getElem_cons_succ, List.getElem_cons_zero]
    refine wp_app1 _ (.tmp 14) (.tmp 20) rfl Try.underlying43 u16_inf rfl (by omega) w.heap.size (.slice NA n nc) n (hcells S) (by rfl) hOa ⟨W.heap.size, 0, none⟩ 1 (by rfl) (.int .u16 (q : Int)) (show (W.alloc (.cells #[.int .u16 (q : Int)] 33)).cell? _ = _ from cell_one_new _ _ _ 0 _ rfl) rfl (by omega) (by have := HA.out.fr.size; simp; omega) ?_
    intro v5 w5 hown5 hg5 _ hold5
    obtain ⟨A5, c5, hv5⟩ := own_formN hown5
    subst hv5
    have hk5 : Kp20 w.heap.size W w5 := (Kp20.of_below (W2 := (W.alloc (.cells #[.int .u16 (q : Int)] 33)).drew) (((Below.refl _ W).alloc (Nat.le_refl _) _).drew)).trans (Kp20.append hOa hg5)
    have hN5 : BlkV w5 (w.heap.size + 1 + 1) 43 [.slice NA n nc] := (HNB.out.alloc _).drew.grown hg5 (fun e => own_ne HNO.out HNB.out (by decide) e.symm)
    have hX5 := HXB.out.kp20 hk5 (by decide) (by decide)
    have hS5 : w5.cell? ⟨w.heap.size + 1 + 1, 0, none⟩ = some (.slice NA n nc) ∧ w5.cell? ⟨xq, 0, none⟩ = some (.int .i64 xi) := ⟨(hN5.cell 0).trans rfl, (hX5.cell 0).trans rfl⟩
    have hO5 : w5.ownsRow w.heap.size 33 1 (.slice A5 (n + 1) c5) (n + 1) (hcells (S ++ [q])) := by rw [hcells_snoc]; exact hown5
    have hR5 : RdH w5 NA n S := RdH.kept20 hOa hs16 (by omega) hg5.size (fun gg hgg j hj => hold5 gg hgg j hj)
    refine hH _ _ hS5 ?_
    clear hH H hown5 hg5 hold5
    refine wpAnyH_take (i := 8) (v := ?_) rfl (by kernel_rfl) (by kernel_rfl) (by kernel_rfl) (fun _ _ _ h => (nomatch h.1)) (Or.inl ⟨by rfl, ?_⟩) hS5 ?_
    case refine_2 => (intro wz hz; go_simp; with_reducible rfl)
    simp only [Act.put, List.getElem_toArray, List.getElem_cons_succ, List.getElem_cons_zero, List.setIfInBounds_toArray, List.set_cons_succ, List.set_cons_zero]
    refine wpAnyH_done (by kernel_rfl) ⟨rfl, ?_⟩ _
    have HK5 := Lib.hid hk5
    have HN5 := Lib.hid hN5
    have HO5 := Lib.hid hO5
    have HR5 := Lib.hid hR5
    have hrd : RdH w5 A5 (n + 1) (S ++ [q]) := RdH.of_own hO5 (fun a ha => by
      rcases List.mem_append.1 ha with h1 | h1
      · exact hs16 a h1
      · rw [List.mem_singleton.1 h1]; exact hq16)
    have HL5 := Lib.hid (losses_any A5 (n + 1) c5 (S ++ [q]) w5 hrd (by omega))
    obtain ⟨m, hm⟩ : ∃ m, m = (lsL (S ++ [q])).length := ⟨_, rfl⟩
    rw [← hm] at HL5 HHAND HSTOP
    clear hk5 hN5 hX5 hS5 hO5 hR5 hrd hm hS0 hSa r1 r2
    by_cases h16 : 16 < m
    · have h16i : (16 : Int) < (m : Int) := by omega
      gi_wp2_with (refine ⟨trivial, rfl, ?_⟩; gi_at_call 21; ((with_reducible refine ((wide_in _).calls (Hid.out HL5)).mono ?_); rintro e w6 ⟨A6, c6, rfl, _, hb6⟩; have HB6 := Lib.hid hb6; clear hb6))
      have hk6 := HK5.out.trans (Kp20.of_below HB6.out)
      refine ⟨hk6.others.from _, rfl, pre, HA.out.kp hk6, ⟨NA, n, nc, HN.out, HN5.out.kp20b HB6.out, ?_, fun ad hA => (HNO.out.lt ad.block (by rw [hA]; rfl)).1⟩, HSTOP.out h16⟩
      rw [← HS.out]
      exact HR5.out.below HB6.out
    · have h16i : ¬ (16 : Int) < (m : Int) := by omega
      have wt : IntKind.i64.wrap (xt + 1) = xt + 1 := by rw [IntKind.wrap_i64]; omega
      gi_wp2_with (refine ⟨trivial, rfl, ?_⟩; gi_at_call 21; ((with_reducible refine ((wide_in _).calls (Hid.out HL5)).mono ?_); rintro e w6 ⟨A6, c6, rfl, _, hb6⟩; have HB6 := Lib.hid hb6; have n6 : w6.cell? ⟨w.heap.size + 1 + 1, 0, none⟩ = some (.slice NA n nc) := ((HN5.out.below hb6 HN5.out.lt).cell 0).trans rfl; have f6 : w6.frozen? ⟨w.heap.size + 1 + 1, 0, none⟩ = false := (HN5.out.below hb6 HN5.out.lt).frozen 0; have X6 := Lib.hid (HXB.out.kp20 (HK5.out.trans (Kp20.of_below hb6)) (by decide) (by decide)); have x6 : w6.cell? ⟨xq, 1, none⟩ = some (.int .i64 xt) := (X6.out.cell 1).trans rfl; have y6 : w6.frozen? ⟨xq, 1, none⟩ = false := X6.out.frozen 1; have l6 : xq < w6.heap.size := X6.out.lt; clear hb6))
      obtain ⟨W7, hW7⟩ : ∃ W7, W7 = w6.setCell ⟨w.heap.size + 1 + 1, 0, none⟩ (.slice A5 (n + 1) c5) := ⟨_, rfl⟩
      rw [← hW7]
      have hk6 := HK5.out.trans (Kp20.of_below HB6.out)
      have n6B := HN5.out.kp20b HB6.out
      have hsw := HA.out.fr.size
      have hkn : Kp20 w.heap.size W W7 := by rw [hW7]; exact hk6.trans (Kp20.num n6B (by omega) _)
      have N7 : BlkV W7 (w.heap.size + 1 + 1) 43 [.slice A5 (n + 1) c5] := by rw [hW7]; exact n6B.set_ 0 _
      have O7 : W7.ownsRow w.heap.size 33 1 (.slice A5 (n + 1) c5) (n + 1) (hcells (S ++ [q])) := by
        rw [hW7]
        exact own_at_same (own_keep HO5.out HB6.out) (fun k hk => (Only.set w6 (w.heap.size + 1 + 1) 0 _).block k (fun e => own_ne (own_keep HO5.out HB6.out) n6B (by decide) (by rw [← e]; exact hk)))
      have X7 := HXB.out.kp20 hkn (by decide) (by decide)
      have A7 := HA.out.kp hkn
      clear hW7 n6 f6 x6 y6 l6
      obtain ⟨W8, hW8⟩ : ∃ W8, W8 = W7.setCell ⟨xq, 1, none⟩ (.int .i64 (xt + 1)) := ⟨_, rfl⟩
      rw [← hW8]
      have ho8 : Only xq W7 W8 := by rw [hW8]; exact Only.set _ _ _ _
      have X8 : BlkV W8 xq 63 [.int .i64 xi, .int .i64 (xt + 1), .int .i64 xs, .int .i64 xd] := by rw [hW8]; exact X7.set_ 1 _
      clear hW8
      have c2 : W8.cell? ⟨xq, 2, none⟩ = some (.int .i64 xs) := (X8.cell 2).trans rfl
      have c3 : W8.cell? ⟨xq, 3, none⟩ = some (.int .i64 xd) := (X8.cell 3).trans rfl
      have f2 : W8.frozen? ⟨xq, 2, none⟩ = false := X8.frozen 2
      have f3 : W8.frozen? ⟨xq, 3, none⟩ = false := X8.frozen 3
      have l8 : xq < W8.heap.size := X8.lt
      have hSS : ∀ W9, Only xq W8 W9 → W9.cell? ⟨w.heap.size + 1, 0, none⟩ = some (.int .i64 tk) ∧ W9.cell? ⟨w.heap.size, 0, none⟩ = some (.pointer (some ⟨g, 0, none⟩)) ∧ W9.cell? ⟨g, 0, none⟩ = some (.int .i64 s.p) := fun W9 ho => ⟨((A7.b1.only (ho8.trans ho) hne4).cell 0).trans rfl, ((A7.b0.only (ho8.trans ho) hne3).cell 0).trans rfl, ((A7.k.only (ho8.trans ho) hne5).cell 0).trans rfl⟩
      have hS8 := hSS W8.drew (Only.refl _ _).drew
      have hS9 := hSS (W8.setCell ⟨xq, 2, none⟩ (.int .i64 tk)).drew (Only.set _ _ _ _).drew
      have hS10 := hSS ((W8.setCell ⟨xq, 2, none⟩ (.int .i64 tk)).setCell ⟨xq, 3, none⟩ (.int .i64 s.p)).drew ((Only.set _ _ _ _).trans (Only.set _ _ _ _)).drew
      have HO8 := Lib.hid ho8
      have HX8 := Lib.hid X8
      have HKN := Lib.hid hkn
      have HN7 := Lib.hid N7
      have HO7 := Lib.hid O7
      clear hSS A7 X7 O7 N7 hkn n6B hk6 X8 ho8 hsw
      refine in_drawn (wide_in _) (fun W9 => W9.cell? ⟨w.heap.size + 1, 0, none⟩ = some (.int .i64 tk) ∧ W9.cell? ⟨w.heap.size, 0, none⟩ = some (.pointer (some ⟨g, 0, none⟩)) ∧ W9.cell? ⟨g, 0, none⟩ = some (.int .i64 s.p)) (by kernel_rfl) (by kernel_rfl) ?_
      refine wpAnyH_take (i := 0) (v := ?_) rfl (by kernel_rfl) (by kernel_rfl) (by kernel_rfl) (fun _ _ _ h => (nomatch h.1)) (Or.inl ⟨by rfl, ?_⟩) hS8 ?_
      case refine_2 => (intro wz hz; go_simp; with_reducible rfl)
      simp only [Act.put, List.getElem_toArray, List.getElem_cons_zero, List.setIfInBounds_toArray, List.set_cons_succ, List.set_cons_zero]
      refine wpAnyH_take (i := 1) (v := ?_) rfl (by kernel_rfl) (by kernel_rfl) (by kernel_rfl) (fun _ _ _ h => (nomatch h.1)) (Or.inl ⟨by rfl, ?_⟩) hS8 ?_
      case refine_2 => (intro wz hz; go_simp; with_reducible rfl)
      simp only [Act.put, List.getElem_toArray, List.getElem_cons_succ, List.getElem_cons_zero, List.setIfInBounds_toArray, List.set_cons_succ, List.set_cons_zero]
      refine wpAnyH_take (i := 2) (v := ?_) rfl (by kernel_rfl) (by kernel_rfl) (by kernel_rfl) (fun _ _ _ h => (nomatch h.1)) (Or.inl ⟨by rfl, ?_⟩) hS8 ?_
      case refine_2 => (intro wz hz; have hq := hz.1; go_simp; with_reducible rfl)
      simp only [Act.put, List.getElem_toArray, List.getElem_cons_succ, List.getElem_cons_zero, List.setIfInBounds_toArray, List.set_cons_succ, List.set_cons_zero]
      refine wpAnyH_take (i := 3) (v := ?_) rfl (by kernel_rfl) (by kernel_rfl) (by kernel_rfl) (fun _ _ _ h => (nomatch h.1)) (Or.inl ⟨by rfl, ?_⟩) hS8 ?_
      case refine_2 => (intro wz hz; have hq := hz.2.1; go_simp; with_reducible rfl)
      simp only [Act.put, List.getElem_toArray, List.getElem_cons_succ, List.getElem_cons_zero, List.setIfInBounds_toArray, List.set_cons_succ, List.set_cons_zero]
      refine wpAnyH_take (i := 4) (v := ?_) rfl (by kernel_rfl) (by kernel_rfl) (by kernel_rfl) (fun _ _ _ h => (nomatch h.1)) (Or.inl ⟨by rfl, ?_⟩) hS8 ?_
      case refine_2 => (intro wz hz; go_simp; with_reducible rfl)
      simp only [Act.put, List.getElem_toArray, List.getElem_cons_succ, List.getElem_cons_zero, List.setIfInBounds_toArray, List.set_cons_succ, List.set_cons_zero]
      refine wpAnyH_take (i := 5) (v := ?_) rfl (by kernel_rfl) (by kernel_rfl) (by kernel_rfl) (fun _ _ _ h => (nomatch h.1)) (Or.inl ⟨by rfl, ?_⟩) hS8 ?_
      case refine_2 => (intro wz hz; go_simp; with_reducible rfl)
      simp only [Act.put, List.getElem_toArray, List.getElem_cons_succ, List.getElem_cons_zero, List.setIfInBounds_toArray, List.set_cons_succ, List.set_cons_zero]
      refine wpAnyH_take (i := 6) (v := ?_) rfl (by kernel_rfl) (by kernel_rfl) (by kernel_rfl) (fun _ _ _ h => (nomatch h.1)) (Or.inl ⟨by rfl, ?_⟩) hS8 ?_
      case refine_2 => (intro wz hz; have hq := hz.2.2; go_simp; with_reducible rfl)
      simp only [Act.put, List.getElem_toArray, List.getElem_cons_succ, List.getElem_cons_zero, List.setIfInBounds_toArray, List.set_cons_succ, List.set_cons_zero]
      refine wpAnyH_take (i := 7) (v := ?_) rfl (by kernel_rfl) (by kernel_rfl) (by kernel_rfl) (fun _ _ _ h => (nomatch h.1)) (Or.inl ⟨by rfl, ?_⟩) hS8 ?_
      case refine_2 => (intro wz hz; go_simp; with_reducible rfl)
      simp only [Act.put, List.getElem_toArray, List.getElem_cons_succ, List.getElem_cons_zero, List.setIfInBounds_toArray, List.set_cons_succ, List.set_cons_zero]
      refine wpAnyH_take (i := 8) (v := ?_) rfl (by kernel_rfl) (by kernel_rfl) (by kernel_rfl) (fun _ _ _ h => (nomatch h.1)) (Or.inl ⟨by rfl, ?_⟩) hS8 ?_
      case refine_2 => (intro wz hz; go_simp; with_reducible rfl)
      simp only [Act.put, List.getElem_toArray, List.getElem_cons_succ, List.getElem_cons_zero, List.setIfInBounds_toArray, List.set_cons_succ, List.set_cons_zero]
      refine anyH_one (i := 9) (by kernel_rfl) rfl rfl (fun H hH => ?_)
      simp only [List.getElem_toArray, List.getElem_cons_succ, List.getElem_cons_zero]
      go_simp
      refine hH _ _ hS9 ?_
      clear hH H
      refine wpAnyH_take (i := 10) (v := ?_) rfl (by kernel_rfl) (by kernel_rfl) (by kernel_rfl) (fun _ _ _ h => (nomatch h.1)) (Or.inl ⟨by rfl, ?_⟩) hS9 ?_
      case refine_2 => (intro wz hz; go_simp; with_reducible rfl)
      simp only [Act.put, List.getElem_toArray, List.getElem_cons_succ, List.getElem_cons_zero, List.setIfInBounds_toArray, List.set_cons_succ, List.set_cons_zero]
      refine wpAnyH_take (i := 11) (v := ?_) rfl (by kernel_rfl) (by kernel_rfl) (by kernel_rfl) (fun _ _ _ h => (nomatch h.1)) (Or.inl ⟨by rfl, ?_⟩) hS9 ?_
      case refine_2 => (intro wz hz; go_simp; with_reducible rfl)
      simp only [Act.put, List.getElem_toArray, List.getElem_cons_succ, List.getElem_cons_zero, List.setIfInBounds_toArray, List.set_cons_succ, List.set_cons_zero]
      refine anyH_one (i := 12) (by kernel_rfl) rfl rfl (fun H hH => ?_)
      simp only [List.getElem_toArray, List.getElem_cons_succ, List.getElem_cons_zero]
      go_simp
      refine hH _ _ hS10 ?_
      clear hH H
      refine wpAnyH_done (by kernel_rfl) ⟨rfl, ?_⟩ _
      gi_wp2
      have ho := HO8.out.trans (((Only.set W8 xq 2 (.int .i64 tk)).trans (Only.set _ xq 3 (.int .i64 s.p))).drew)
      refine ⟨(((HKN.out.others.trans (keeps_only (HXB.out.kp20 HKN.out (by decide) (by decide)) ho))).from _), HHAND.out W7 _ HKN.out h16 ho ((HX8.out.set_ 2 (.int .i64 tk)).set_ 3 (.int .i64 s.p)).drew, A5, n + 1, c5, by rw [List.length_append, HN.out]; rfl, HN7.out.only ho hne1, ?_⟩
      have e : (pre ++ [(⟨xq, xi, xt, xs, xd⟩ : Pk20)]).map Pk20.sq = S ++ [q] := by rw [List.map_append, HS.out, HQI.out]; rfl
      rw [e]
      exact own_at_same HO7.out (fun k hk => ho.block k (fun e2 => own_ne HO7.out (HXB.out.kp20 HKN.out (by decide) (by decide)) (by decide) (by rw [← e2]; exact hk)))
  case done =>
    rintro D xs W hD hS ⟨hA0, NA0, n0, nc0, hn0, hNB0, hNO0⟩ hKD
    have hfin : LoopEnd20 w g s A c X F tk W := ⟨xs, hA0, ⟨NA0, n0, nc0, hn0, hNB0, RdH.of_own hNO0 (sq_lt20 xs), fun ad hA => (hNO0.lt ad.block (by rw [hA]; rfl)).1⟩, hA0.all hS⟩
    clear hA0 hn0 hNB0 hNO0 hS
    obtain ⟨pre, hA, ⟨NA, n, nc, hn, hNB, hNR, hNA⟩, hcnt⟩ := hfin
    have hDw : D < W.heap.size := (Array.getElem?_eq_some_iff.1 hKD).1
    have hDF : ¬ F D := fun hf => by have := HH.out.low D hf; omega
    have hnf : n ≤ 32 := by
      have h1 := congrArg List.length hA.took
      have h3 : (X.filter (Pk20.due tk)).length ≤ X.length := List.length_filter_le _ _
      rw [List.length_take] at h1
      omega
    have r0 : W.cell? ⟨w.heap.size, 0, none⟩ = some (.pointer (some ⟨g, 0, none⟩)) := (hA.b0.cell 0).trans rfl
    have hp1 := HOK.out.p
    have hkt := hA.kat HH.out (by omega) (by omega)
    have HKT := Lib.hid hkt
    have HFG := Lib.hid (forget_any20 W g _ A c _ F 23 #[] (fun x => decide (3 ≤ x.t)) hkt (by rw [List.length_map]; omega) (goes20_thrice hkt))
    have HST : Hid (∀ w5, Fr F W w5 → w5.heap[D]? = some (.deferred (some [])) ∧ w5.cell? ⟨w.heap.size + 1 + 1, 0, none⟩ = some (.slice NA n nc) ∧ RdH w5 NA n (pre.map Pk20.sq)) := Lib.hid (fun w5 hf => ⟨(hf.keep D hDw hDF).trans hKD, ((hNB.fr hf (fun h1 => by have := HH.out.low _ h1; omega)).cell 0).trans rfl, hNR.fr20 hf (fun ad h1 h2 => by have := HH.out.low _ h2; have := hNA ad h1; omega)⟩)
    have HA := Lib.hid hA
    have HCNT := Lib.hid hcnt
    have HN := Lib.hid hn
    have HLS : Hid (∀ w5, RdH w5 NA n (pre.map Pk20.sq) → ∃ m, m = (lsL (pre.map Pk20.sq)).length ∧ Calls Try.prog 21 #[.slice NA n nc] w5 fun e w' => ∃ A' c', e = .returned (.slice A' m c') ∧ w'.ownsRow w5.heap.size 35 2 (.slice A' m c') m (lcells (lsL (pre.map Pk20.sq))) ∧ Below w5.heap.size w5 w') := Lib.hid (fun w5 hr => ⟨_, rfl, losses_any NA n nc _ w5 hr (by omega)⟩)
    clear hA hNB hNR hNA hcnt hkt hDF hKD hn hp1 hstart HIT HFQ HIN HP HRIS
    go_wp2_with (first
      | (go_at_call 22; ((with_reducible refine (Hid.out HFG).mono ?_); rintro e w5 ⟨rfl, HE⟩; obtain ⟨F2, k1, k2, k3⟩ := HE.out; obtain ⟨s1, s2, s3⟩ := HST.out w5 k2; obtain ⟨m, hm, hcl⟩ := HLS.out w5 s3; have HM := Lib.hid hm; have HCL := Lib.hid hcl; have K1 := Lib.hid k1; have K2 := Lib.hid k2; have K3 := Lib.hid k3; have S1 := Lib.hid s1; clear k1 k2 k3 s1 s3 hm hcl HE))
      | (go_at_call 21; ((with_reducible refine (Hid.out HCL).mono ?_); rintro e w6 ⟨A6, c6, rfl, ho6, hb6⟩; have O6 := Lib.hid ho6; have B6 := Lib.hid hb6; clear ho6 hb6)))
    have hkd : w6.heap[D]? = some (.deferred (some [])) := (B6.out.block D (Array.getElem?_eq_some_iff.1 S1.out).1).trans S1.out
    have hT : Turn w.heap.size w6 (w6.putObj D (.deferred none)) := Turn.obj _ (Nat.le_trans hsz hD) hkd rfl
    refine ⟨by simp, .inl ⟨_, _, rfl, run_takeDeferred hkd, ?_⟩⟩
    refine ⟨_, results_tmp rfl _ _ _, ?_⟩
    exact HA.out.fin HH.out HOK.out HCNT.out K1.out K2.out K3.out HM.out O6.out B6.out hT (Nat.le_refl _)
  case stop =>
    rintro D cd pre0 W hD ⟨rfl, hfin⟩ hKD
    refine wpIn_exit ?_
    obtain ⟨pre, hA, ⟨NA, n, nc, hn, hNB, hNR, hNA⟩, hcnt⟩ := hfin
    have hDw : D < W.heap.size := (Array.getElem?_eq_some_iff.1 hKD).1
    have hDF : ¬ F D := fun hf => by have := HH.out.low D hf; omega
    have hnf : n ≤ 32 := by
      have h1 := congrArg List.length hA.took
      have h3 : (X.filter (Pk20.due tk)).length ≤ X.length := List.length_filter_le _ _
      rw [List.length_take] at h1
      omega
    have r0 : W.cell? ⟨w.heap.size, 0, none⟩ = some (.pointer (some ⟨g, 0, none⟩)) := (hA.b0.cell 0).trans rfl
    have hp1 := HOK.out.p
    have hkt := hA.kat HH.out (by omega) (by omega)
    have HKT := Lib.hid hkt
    have HFG := Lib.hid (forget_any20 W g _ A c _ F 23 #[] (fun x => decide (3 ≤ x.t)) hkt (by rw [List.length_map]; omega) (goes20_thrice hkt))
    have HST : Hid (∀ w5, Fr F W w5 → w5.heap[D]? = some (.deferred (some [])) ∧ w5.cell? ⟨w.heap.size + 1 + 1, 0, none⟩ = some (.slice NA n nc) ∧ RdH w5 NA n (pre.map Pk20.sq)) := Lib.hid (fun w5 hf => ⟨(hf.keep D hDw hDF).trans hKD, ((hNB.fr hf (fun h1 => by have := HH.out.low _ h1; omega)).cell 0).trans rfl, hNR.fr20 hf (fun ad h1 h2 => by have := HH.out.low _ h2; have := hNA ad h1; omega)⟩)
    have HA := Lib.hid hA
    have HCNT := Lib.hid hcnt
    have HN := Lib.hid hn
    have HLS : Hid (∀ w5, RdH w5 NA n (pre.map Pk20.sq) → ∃ m, m = (lsL (pre.map Pk20.sq)).length ∧ Calls Try.prog 21 #[.slice NA n nc] w5 fun e w' => ∃ A' c', e = .returned (.slice A' m c') ∧ w'.ownsRow w5.heap.size 35 2 (.slice A' m c') m (lcells (lsL (pre.map Pk20.sq))) ∧ Below w5.heap.size w5 w') := Lib.hid (fun w5 hr => ⟨_, rfl, losses_any NA n nc _ w5 hr (by omega)⟩)
    clear hA hNB hNR hNA hcnt hkt hDF hKD hn hp1 hstart HIT HFQ HIN HP HRIS
    go_wp2_with (first
      | (go_at_call 22; ((with_reducible refine (Hid.out HFG).mono ?_); rintro e w5 ⟨rfl, HE⟩; obtain ⟨F2, k1, k2, k3⟩ := HE.out; obtain ⟨s1, s2, s3⟩ := HST.out w5 k2; obtain ⟨m, hm, hcl⟩ := HLS.out w5 s3; have HM := Lib.hid hm; have HCL := Lib.hid hcl; have K1 := Lib.hid k1; have K2 := Lib.hid k2; have K3 := Lib.hid k3; have S1 := Lib.hid s1; clear k1 k2 k3 s1 s3 hm hcl HE))
      | (go_at_call 21; ((with_reducible refine (Hid.out HCL).mono ?_); rintro e w6 ⟨A6, c6, rfl, ho6, hb6⟩; have O6 := Lib.hid ho6; have B6 := Lib.hid hb6; clear ho6 hb6)))
    have hkd : w6.heap[D]? = some (.deferred (some [])) := (B6.out.block D (Array.getElem?_eq_some_iff.1 S1.out).1).trans S1.out
    have hT : Turn w.heap.size w6 (w6.putObj D (.deferred none)) := Turn.obj _ (Nat.le_trans hsz hD) hkd rfl
    refine ⟨by simp, .inl ⟨_, _, rfl, run_takeDeferred hkd, ?_⟩⟩
    refine ⟨_, results_tmp rfl _ _ _, ?_⟩
    exact HA.out.fin HH.out HOK.out HCNT.out K1.out K2.out K3.out HM.out O6.out B6.out hT (Nat.le_refl _)
end Go.Proofs.Ytkmacpmdgbhhkaa
