/- Several texts in one: plain words and walks. No statement is proved here. -/
import Derived.Test.YtheefckohnaceaaGreatDoorZM13
import Derived.Test.YtheefckohnaceaaGreatDoorZM3
import Derived.Test.YtheefckohnaceaaGreatDoorZM0
import Derived.Maps.AppendAt
import Derived.BigQuiet
import Derived.Test.YtheefckohnaceaaGreatDoorZBytes
import Derived.Deep.Fields
import Derived.OpenShut
import Derived.Test.YtheefckohnaceaaGreatDoorZM15
import Derived.Test.YtheefckohnaceaaGreatDoorZM9
namespace Go.Proofs.YtheefckohnaceaaGreatDoor
open Go.RowKit
set_option linter.unusedVariables false

def hcells (L : List Nat) : List Value := L.map fun x : Nat => .int .u16 (x : Int)
theorem hcells_len (L : List Nat) : (hcells L).length = L.length := by simp [hcells]
theorem hcells_at {L : List Nat} {j : Nat} (h : j < L.length) : (hcells L)[j]? = some (.int .u16 ((L.getD j 0 : Nat) : Int)) := by simp [hcells, List.getD, h]
def RdL (w : World) (A : Option Addr) (n : Nat) (L : List (Nat × Nat)) : Prop :=
 L.length = n ∧ n ≤ 9223372036854775807 ∧ (∀ a ∈ L, a.1 < 65536 ∧ a.2 < 65536) ∧ (0 < n → ∃ b off, A = some ⟨b, off, none⟩ ∧ b < w.heap.size ∧ ∀ j, j < n → w.cell? ⟨b, off + j * 2, none⟩ = some (.int .u16 (((L.getD j (0, 0)).1 : Nat) : Int)) ∧ w.cell? ⟨b, off + j * 2 + 1, none⟩ = some (.int .u16 (((L.getD j (0, 0)).2 : Nat) : Int)))
theorem RdL.below {w w' : World} {A : Option Addr} {n : Nat} {L : List (Nat × Nat)} (h : RdL w A n L) (hb : Below w.heap.size w w') : RdL w' A n L := by
 refine ⟨h.1, h.2.1, h.2.2.1, fun hn => ?_⟩
 obtain ⟨b, off, hA, hlt, hc⟩ := h.2.2.2 hn
 exact ⟨b, off, hA, Nat.lt_of_lt_of_le hlt hb.size, fun j hj => ⟨(hb.cell (p := ⟨b, off + j * 2, none⟩) hlt).trans (hc j hj).1, (hb.cell (p := ⟨b, off + j * 2 + 1, none⟩) hlt).trans (hc j hj).2⟩⟩

def lcells (L : List (Nat × Nat)) : List Value := L.flatMap fun a => [.int .u16 (a.1 : Int), .int .u16 (a.2 : Int)]
theorem lcells_len (L : List (Nat × Nat)) : (lcells L).length = L.length * 2 := by
 induction L with
 | nil => rfl
 | cons a r ih =>
   have : lcells (a :: r) = [.int .u16 (a.1 : Int), .int .u16 (a.2 : Int)] ++ lcells r := by simp [lcells]
   rw [this, List.length_append, ih, List.length_cons]
   simp; omega
def RdH (w : World) (A : Option Addr) (n : Nat) (L : List Nat) : Prop :=
 L.length = n ∧ n ≤ 9223372036854775807 ∧ (∀ x ∈ L, x < 65536) ∧ (0 < n → ∃ b off, A = some ⟨b, off, none⟩ ∧ b < w.heap.size ∧ ∀ j, j < n → w.cell? ⟨b, off + j, none⟩ = some (.int .u16 ((L.getD j 0 : Nat) : Int)))
theorem RdH.below {w w' : World} {A : Option Addr} {n : Nat} {L : List Nat} (h : RdH w A n L) (hb : Below w.heap.size w w') : RdH w' A n L := by
 refine ⟨h.1, h.2.1, h.2.2.1, fun hn => ?_⟩
 obtain ⟨b, off, hA, hlt, hc⟩ := h.2.2.2 hn
 exact ⟨b, off, hA, Nat.lt_of_lt_of_le hlt hb.size, fun j hj => (hb.cell (p := ⟨b, off + j, none⟩) hlt).trans (hc j hj)⟩
end Go.Proofs.YtheefckohnaceaaGreatDoor

namespace Go.Proofs.YtheefckohnaceaaGreatDoor
open Go.RowKit Go.ChangeShapes Go.WideShapes Go.Deep
set_option linter.unusedVariables false

inductive FK where
 | int (k : IntKind)
 | bool
def FK.is : FK → Option TypeDesc → Bool
 | .int k, some (.int k') => decide (k = k')
 | .bool, some .bool => true
 | _, _ => false
def FK.ok : FK → Value → Prop
 | .int k, v => ∃ z, v = .int k z ∧ (Lit.int k z).wf = true
 | .bool, v => ∃ b, v = .bool b
def RdF (ks : List FK) (w : World) (A : Option Addr) (n : Nat) (rs : Nat → Nat → Value) : Prop :=
 n ≤ 9223372036854775807 ∧ (∀ i, i < n → ∀ (j : Nat) (k : FK), ks[j]? = some k → k.ok (rs i j)) ∧
 (0 < n → ∃ b off, A = some ⟨b, off, none⟩ ∧ b < w.heap.size ∧ ∀ i, i < n → ∀ j, j < ks.length → w.cell? ⟨b, off + (i * ks.length + j), none⟩ = some (rs i j))
section
variable {ks : List FK} {w w' : World} {A : Option Addr} {n : Nat} {rs : Nat → Nat → Value}
theorem RdF.small (h : RdF ks w A n rs) : n ≤ 9223372036854775807 := h.1
theorem RdF.below (h : RdF ks w A n rs) {B : Nat} (hb : Below B w w') (hB : w.heap.size ≤ B) : RdF ks w' A n rs := by
 refine ⟨h.1, h.2.1, fun hn => ?_⟩
 obtain ⟨b, off, hA, hlt, hc⟩ := h.2.2 hn
 exact ⟨b, off, hA, Nat.lt_of_lt_of_le hlt hb.size, fun i hi j hj => (hb.cell (p := ⟨b, off + (i * ks.length + j), none⟩) (by simp only; omega)).trans (hc i hi j hj)⟩
theorem RdF.at_ (h : RdF ks w A n rs) (hn : 0 < n) : ∃ b off, A = some ⟨b, off, none⟩ ∧ ∀ wx, Below w.heap.size w wx → ∀ i, i < n → ∀ j, j < ks.length → wx.cell? ⟨b, off + (i * ks.length + j), none⟩ = some (rs i j) := by
 obtain ⟨b, off, hA, _, _⟩ := h.2.2 hn
 refine ⟨b, off, hA, fun wx hb i hi j hj => ?_⟩
 obtain ⟨b2, off2, hA2, _, hc2⟩ := (h.below hb (Nat.le_refl _)).2.2 hn
 rw [hA] at hA2
 injection hA2 with e
 injection e with e1 e2
 subst e1; subst e2
 exact hc2 i hi j hj
end
theorem add_at (b o k : Nat) : (⟨b, o, none⟩ : Addr).add k = ⟨b, o + k, none⟩ := by unfold Addr.add; split <;> simp_all
end Go.Proofs.YtheefckohnaceaaGreatDoor

namespace Go.Proofs.YtheefckohnaceaaGreatDoor
open Go.RowKit Go.ChangeShapes Go.WideShapes Go.Deep
set_option linter.unusedVariables false

theorem RdL.of_own {w : World} {base : Nat} {e : TypeId} {A : Option Addr} {n c : Nat} {L : List (Nat × Nat)} (h : w.ownsRow base e 2 (.slice A n c) n (lcells L)) (hf : ∀ a ∈ L, a.1 < 65536 ∧ a.2 < 65536) : RdL w A n L := by
 have hl : L.length = n := by have := h.1; rw [lcells_len] at this; omega
 have hat := h
 rcases h.2 with ⟨hv, hn⟩ | ⟨g, cap, cur, hv, hb, hg, hnc, hcm, hcs, htake⟩
 · exact ⟨hl, by omega, hf, fun h => absurd h (by omega)⟩
 · injection hv with h1 h2 h3
   subst h1; subst h3
   refine ⟨hl, by simp only [maxLen] at hcm; omega, hf, fun hn => ⟨g, 0, rfl, (Array.getElem?_eq_some_iff.1 hg).1, fun j hj => ?_⟩⟩
   have hjl : j < L.length := by omega
   have hcut : L = L.take j ++ ([L.getD j (0, 0)] ++ L.drop (j + 1)) := by
    rw [show [L.getD j (0, 0)] ++ L.drop (j + 1) = L.drop j by
     rw [List.drop_eq_getElem_cons hjl, List.getD, List.getElem?_eq_getElem hjl]; rfl]
    exact (List.take_append_drop j L).symm
   have hx : ∀ d, d < 2 → (lcells L)[j * 2 + d]? = ([.int .u16 (((L.getD j (0, 0)).1 : Nat) : Int), .int .u16 (((L.getD j (0, 0)).2 : Nat) : Int)] : List Value)[d]? := by
    intro d hd
    have e : lcells L = lcells (L.take j) ++ ([.int .u16 (((L.getD j (0, 0)).1 : Nat) : Int), .int .u16 (((L.getD j (0, 0)).2 : Nat) : Int)] ++ lcells (L.drop (j + 1))) := by
     conv => lhs; rw [hcut]
     simp [lcells]
    have ht : (lcells (L.take j)).length = j * 2 := by rw [lcells_len, List.length_take]; omega
    rw [e, List.getElem?_append_right (by omega), ht, Nat.add_sub_cancel_left, List.getElem?_append_left (by simpa using hd)]
   have c0 := (hat.cellAt (j * 2) (by omega)).trans ((hx 0 (by omega)).trans rfl)
   have c1 := (hat.cellAt (j * 2 + 1) (by omega)).trans ((hx 1 (by omega)).trans rfl)
   rw [Nat.zero_add]
   exact ⟨c0, c1⟩
theorem RdH.of_own {w : World} {base : Nat} {e : TypeId} {A : Option Addr} {n c : Nat} {L : List Nat} (h : w.ownsRow base e 1 (.slice A n c) n (hcells L)) (hf : ∀ a ∈ L, a < 65536) : RdH w A n L := by
 have hl : L.length = n := by simpa [hcells_len] using h.1
 have hat := h
 rcases h.2 with ⟨hv, hn⟩ | ⟨g, cap, cur, hv, hb, hg, hnc, hcm, hcs, htake⟩
 · exact ⟨hl, by omega, hf, fun h => absurd h (by omega)⟩
 · injection hv with h1 h2 h3
   subst h1; subst h3
   refine ⟨hl, by simp only [maxLen] at hcm; omega, hf, fun hn => ⟨g, 0, rfl, (Array.getElem?_eq_some_iff.1 hg).1, fun j hj => ?_⟩⟩
   rw [Nat.zero_add, hat.cellAt j (by omega), hcells_at (by omega)]
end Go.Proofs.YtheefckohnaceaaGreatDoor

namespace Go.Proofs.YtheefckohnaceaaGreatDoor
open List renaming getElem_toArray → xgT, getElem_cons_succ → xgS, getElem_cons_zero → xgZ, setIfInBounds_toArray → xsT, set_cons_succ → xsS, set_cons_zero → xsZ
open Go.RowKit
set_option linter.unusedVariables false

structure TC (w : World) (g b : Nat) (s : Wc) (A : Option Addr) (n c : Nat) (bs : List UInt8) (wx : World) : Prop where
 way : PCtl wx g b s
 rd : RdS wx A n c bs
 below : Below w.heap.size w wx
theorem TC.on {w wx wy : World} {g b : Nat} {s : Wc} {A : Option Addr} {n c : Nat} {bs : List UInt8} (h : TC w g b s A n c bs wx) (hb : Below wx.heap.size wx wy) : TC w g b s A n c bs wy :=
 ⟨h.way.below hb, h.rd.below hb, h.below.trans (hb.mono h.below.size)⟩
structure TCF (w : World) (g b : Nat) (s : Wc) (A : Option Addr) (n c : Nat) (bs fc : List UInt8) (q : Nat) (wx : World) : Prop where
 t : TC w g b s A n c bs wx
 fb : Blk wx q 22 fc
theorem TCF.on {w wx wy : World} {g b : Nat} {s : Wc} {A : Option Addr} {n c : Nat} {bs fc : List UInt8} {q : Nat} (h : TCF w g b s A n c bs fc q wx) (hb : Below wx.heap.size wx wy) : TCF w g b s A n c bs fc q wy :=
 ⟨h.t.on hb, h.fb.below hb h.fb.lt⟩
set_option maxRecDepth 100000 in
set_option maxHeartbeats 1000000 in
theorem turned16_any (g b : Nat) (s : Wc) (A : Option Addr) (n c : Nat) (bs : List UInt8) (i : Nat) (w : World) (h : PCtl w g b s) (hf : s.y.fit) (hr : RdS w A n c bs) (h8 : 8 ≤ n) (hn : n ≤ 4000) (hi : i < 281474976710656) :
 Calls Tryz.prog 19 #[.pointer (some ⟨g, 0, none⟩), .slice A n c, .int .i64 (i : Int)] w fun e w' => ∃ v, e = .returned v ∧ w'.ownsRow w.heap.size 5 1 v (n - 8) (cells (cph s.y.key (firstC s.y.salt (soC bs) i) (bs.drop 8))) ∧ Below w.heap.size w w' := by
 have hl := hr.len
 have hle := hr.le
 have hmx := hr.max
 have hz16 := zero16
 have hso := soC_lt bs
 have HF := Lib.hid hf
 have HS0 : Hid (TC w g b s A n c bs w) := Lib.hid ⟨h, hr, Below.refl _ _⟩
 have HSL : Hid ((cells s.y.salt).length = 14) := Lib.hid (by rw [length_cells, hf.2.2.1])
 have HKL : Hid ((cells s.y.key).length = 16) := Lib.hid (by rw [length_cells, hf.1])
 have ew : IntKind.u64.wrap (i : Int) = (i : Int) := by rw [IntKind.wrap_u64]; omega
 have hfl := firstC_len s.y.salt (soC bs) i hf.2.2.1
 have HSO := Lib.hid (fun W (k : RdS W A n c bs) => source16_any A n c bs W k h8)
 obtain ⟨SO, hSO⟩ : ∃ SO, SO = soC bs := ⟨_, rfl⟩
 rw [← hSO] at HSO hso hfl ⊢
 have HFC := Lib.hid (fun W => first_any s.y.salt SO i W hf.2.2.1 hso (by omega))
 have HC : Hid (∀ W A c, RdS W A (n - 8) c (bs.drop 8) → Calls Tryz.prog 34 #[.agg (cells s.y.key).toArray, .agg (cells (firstC s.y.salt SO i)).toArray, .slice A (n - 8) c] W fun e w' => ∃ v, e = .returned v ∧ w'.ownsRow W.heap.size 5 1 v (n - 8) (cells (cph s.y.key (firstC s.y.salt SO i) (bs.drop 8))) ∧ Below W.heap.size W w') := Lib.hid (fun W A c hr => cipher_any s.y.key _ A (n - 8) c _ W hf.1 hfl hr (by omega))
 obtain ⟨fc, hfc⟩ : ∃ x, x = firstC s.y.salt SO i := ⟨_, rfl⟩
 rw [← hfc] at HFC HC hfl ⊢
 have HFL : Hid ((cells fc).length = 16) := Lib.hid (by rw [length_cells, hfl])
 have HZL : Hid ((cells Z16).length = 16) := Lib.hid (by rw [length_cells, Z16_len])
 obtain ⟨AL, eL, eL2, hrl⟩ := run_lo A n c 8 8 rfl h8 hle hmx
 have HRL := Lib.hid hrl
 have hcm : c ≤ 9223372036854775807 := hr.small.2
 have hc8 : 8 ≤ c := by omega
 clear h hf hr hl hmx hSO hfc hfl hrl hso
 go_enter Tryz.func19, Tryz.ntmps19
 go_upto_region 1 with (fail)
 go_cut [7] (fun u wx => ∃ q, u = .pointer (some ⟨q, 0, none⟩) ∧ Hid (TCF w g b s A n c bs fc q wx))
 case first =>
  refine wp_region_noPanic ?_
  refine wp_region_held (S := fun wx => Below w.heap.size w wx) (by kernel_rfl) ?_
  change wpAnyH _ _ _ _ _ _ _ _ (World.drew _)
  obtain ⟨w1, hw1⟩ : ∃ x, x = w.drew := ⟨_, rfl⟩
  rw [← hw1]
  have hS : Below w.heap.size w w1 := hw1 ▸ (Below.refl _ _).drew
  clear hw1
  refine wpAnyH_take (i := 0) (v := ?_) rfl (by kernel_rfl) (by kernel_rfl) (by kernel_rfl) (fun _ _ _ h => h) (Or.inl ⟨by rfl, ?_⟩) hS ?_
  case refine_2 => (intro wz hz; go_simp; with_reducible rfl)
  simp only [Act.put, xgT, xgZ, xsT, xsS, xsZ]
  refine wpAnyH_take (i := 1) (v := ?_) rfl (by kernel_rfl) (by kernel_rfl) (by kernel_rfl) (fun _ _ _ h => h) (Or.inl ⟨by rfl, ?_⟩) hS ?_
  case refine_2 => (intro wz hz; go_simp; with_reducible rfl)
  simp only [Act.put, xgT, xgS, xgZ, xsT, xsS, xsZ]
  refine wpAnyH_take (i := 2) (v := ?_) rfl (by kernel_rfl) (by kernel_rfl) (by kernel_rfl) (fun _ _ _ h => h) (Or.inl ⟨by rfl, ?_⟩) hS ?_
  case refine_2 => (intro wz hz; go_simp; with_reducible rfl)
  simp only [Act.put, xgT, xgS, xgZ, xsT, xsS, xsZ]
  refine wpAnyH_take (i := 3) (v := ?_) rfl (by kernel_rfl) (by kernel_rfl) (by kernel_rfl) (fun _ _ _ h => h) (Or.inl ⟨by rfl, ?_⟩) hS ?_
  case refine_2 => (intro wz hz; go_simp; with_reducible rfl)
  simp only [Act.put, xgT, xgS, xgZ, xsT, xsS, xsZ]
  refine wpAnyH_take (i := 4) (v := .agg (cells s.y.salt).toArray) rfl (by kernel_rfl) (by kernel_rfl) (by kernel_rfl) (fun _ _ _ h => h) (Or.inl ⟨by rfl, fun wz hz => ?_⟩) hS ?_
  · (exact run_ld 23 _ rfl g 36 (by rfl) (cells s.y.salt) ((HS0.out.way.below hz).salt HF.out) (row14 HSL.out))
  simp only [Act.put, xgT, xgS, xgZ, xsT, xsS, xsZ]
  refine wpAnyH_take (i := 5) (v := ?_) rfl (by kernel_rfl) (by kernel_rfl) (by kernel_rfl) (fun _ _ _ h => h) (Or.inl ⟨by rfl, ?_⟩) hS ?_
  case refine_2 => (intro wz hz; go_simp; with_reducible rfl)
  simp only [Act.put, xgT, xgS, xgZ, xsT, xsS, xsZ]
  refine wpAnyH_take (i := 7) (v := ?_) rfl (by kernel_rfl) (by kernel_rfl) (by kernel_rfl) (fun _ _ _ h => h) (Or.inl ⟨by rfl, ?_⟩) hS ?_
  case refine_2 => (intro wz hz; go_simp; with_reducible rfl)
  simp only [Act.put, xgT, xgS, xgZ, xsT, xsS, xsZ]
  refine wpAnyH_take (i := 8) (v := ?_) rfl (by kernel_rfl) (by kernel_rfl) (by kernel_rfl) (fun _ _ _ h => h) (Or.inl ⟨by rfl, ?_⟩) hS ?_
  case refine_2 => (intro wz hz; go_simp; with_reducible rfl)
  simp only [Act.put, xgT, xgS, xgZ, xsT, xsS, xsZ]
  refine anyH_two (i := 6) (j := 10) (by kernel_rfl) rfl rfl rfl rfl (fun H hH => ?_) (fun H hH => ?_)
  · simp only [xgT, xgS, xgZ]
    go_simp
    refine (HSO.out _ (HS0.out.rd.below hS)).mono ?_
    rintro e w' ⟨rfl, rfl⟩
    refine hH _ _ hS ?_
    clear hH
    refine anyH_two (i := 9) (j := 10) (by kernel_rfl) rfl rfl rfl rfl (fun H hH => ?_) (fun H hH => ?_)
    · simp only [xgT, xgS, xgZ]
      go_simp
      refine (HFC.out _).mono ?_
      rintro e w2 ⟨rfl, hb_w2⟩
      have hS2 : Below w.heap.size w w2 := hS.trans (hb_w2.mono hS.size)
      refine hH _ _ hS2 ?_
      clear hH
      refine anyH_one (i := 10) (by kernel_rfl) rfl rfl (fun H hH => ?_)
      simp only [xgT, xgS, xgZ]
      go_simp
      have hI3 := BlkV.new w2 22 (cells Z16)
      have hS3 : Below w.heap.size w (w2.alloc (.cells (cells Z16).toArray 22)) := hS2.alloc hS2.size _
      obtain ⟨q, hq⟩ : ∃ q, q = w2.heap.size := ⟨_, rfl⟩
      have hql : w.heap.size ≤ q := by rw [hq]; exact hS2.size
      rw [← hq] at hI3 ⊢
      refine hH _ _ hS3 ?_
      clear hH hq
      refine anyH_one (i := 11) (by kernel_rfl) rfl rfl (fun H hH => ?_)
      simp only [xgT, xgS, xgZ]
      refine wp_st 22 (.tmp 7) (.tmp 17) rfl q 0 (cells fc) rfl rfl 22 _ hI3 (by rw [HFL.out, HZL.out]; omega) (row16 HFL.out) (cells_one _) ?_
      intro w4 hB4 ho4
      rw [splice_all _ _ (by rw [HFL.out, HZL.out])] at hB4
      have hS4 : Below w.heap.size w w4 := hS3.trans (ho4.below hql)
      refine hH _ _ hS4 ?_
      clear hH
      refine wpAnyH_done (by kernel_rfl) ?_ _
      refine NoPanic.normal ?_
      have HF4 : Hid (TCF w g b s A n c bs fc q w4) := Lib.hid ⟨HS0.out.on hS4, hB4⟩
      clear hB4 ho4 hS4
      go_wp2_with fail
      go_meet
      exact ⟨q, rfl, HF4⟩
    · simp only [xgT, xgS, xgZ]
      go_simp
      have hI3 := BlkV.new w1 22 (cells Z16)
      have hS3 : Below w.heap.size w (w1.alloc (.cells (cells Z16).toArray 22)) := hS.alloc hS.size _
      obtain ⟨q, hq⟩ : ∃ q, q = w1.heap.size := ⟨_, rfl⟩
      have hql : w.heap.size ≤ q := by rw [hq]; exact hS.size
      rw [← hq] at hI3 ⊢
      refine hH _ _ hS3 ?_
      clear hH hq
      refine anyH_one (i := 9) (by kernel_rfl) rfl rfl (fun H hH => ?_)
      simp only [xgT, xgS, xgZ]
      go_simp
      refine (HFC.out _).mono ?_
      rintro e w2 ⟨rfl, hb_w2⟩
      have hS2 : Below w.heap.size w w2 := hS3.trans (hb_w2.mono hS3.size)
      refine hH _ _ hS2 ?_
      clear hH
      have hI4 := hI3.below hb_w2 hI3.lt
      refine anyH_one (i := 11) (by kernel_rfl) rfl rfl (fun H hH => ?_)
      simp only [xgT, xgS, xgZ]
      refine wp_st 22 (.tmp 7) (.tmp 17) rfl q 0 (cells fc) rfl rfl 22 _ hI4 (by rw [HFL.out, HZL.out]; omega) (row16 HFL.out) (cells_one _) ?_
      intro w4 hB4 ho4
      rw [splice_all _ _ (by rw [HFL.out, HZL.out])] at hB4
      have hS4 : Below w.heap.size w w4 := hS2.trans (ho4.below hql)
      refine hH _ _ hS4 ?_
      clear hH
      refine wpAnyH_done (by kernel_rfl) ?_ _
      refine NoPanic.normal ?_
      have HF4 : Hid (TCF w g b s A n c bs fc q w4) := Lib.hid ⟨HS0.out.on hS4, hB4⟩
      clear hB4 ho4 hS4
      go_wp2_with fail
      go_meet
      exact ⟨q, rfl, HF4⟩
  · simp only [xgT, xgS, xgZ]
    go_simp
    have hI3 := BlkV.new w1 22 (cells Z16)
    have hS3 : Below w.heap.size w (w1.alloc (.cells (cells Z16).toArray 22)) := hS.alloc hS.size _
    obtain ⟨q, hq⟩ : ∃ q, q = w1.heap.size := ⟨_, rfl⟩
    have hql : w.heap.size ≤ q := by rw [hq]; exact hS.size
    rw [← hq] at hI3 ⊢
    refine hH _ _ hS3 ?_
    clear hH hq
    refine anyH_one (i := 6) (by kernel_rfl) rfl rfl (fun H hH => ?_)
    simp only [xgT, xgS, xgZ]
    go_simp
    refine (HSO.out _ (HS0.out.rd.below hS3)).mono ?_
    rintro e w' ⟨rfl, rfl⟩
    refine hH _ _ hS3 ?_
    clear hH
    refine anyH_one (i := 9) (by kernel_rfl) rfl rfl (fun H hH => ?_)
    simp only [xgT, xgS, xgZ]
    go_simp
    refine (HFC.out _).mono ?_
    rintro e w2 ⟨rfl, hb_w2⟩
    have hS2 : Below w.heap.size w w2 := hS3.trans (hb_w2.mono hS3.size)
    refine hH _ _ hS2 ?_
    clear hH
    have hI4 := hI3.below hb_w2 hI3.lt
    refine anyH_one (i := 11) (by kernel_rfl) rfl rfl (fun H hH => ?_)
    simp only [xgT, xgS, xgZ]
    refine wp_st 22 (.tmp 7) (.tmp 17) rfl q 0 (cells fc) rfl rfl 22 _ hI4 (by rw [HFL.out, HZL.out]; omega) (row16 HFL.out) (cells_one _) ?_
    intro w4 hB4 ho4
    rw [splice_all _ _ (by rw [HFL.out, HZL.out])] at hB4
    have hS4 : Below w.heap.size w w4 := hS2.trans (ho4.below hql)
    refine hH _ _ hS4 ?_
    clear hH
    refine wpAnyH_done (by kernel_rfl) ?_ _
    refine NoPanic.normal ?_
    have HF4 : Hid (TCF w g b s A n c bs fc q w4) := Lib.hid ⟨HS0.out.on hS4, hB4⟩
    clear hB4 ho4 hS4
    go_wp2_with fail
    go_meet
    exact ⟨q, rfl, HF4⟩
 case rest =>
  obtain ⟨q, rfl, HS4⟩ := hcut
  go_upto_region 2 with (fail)
  refine wp_region_noPanic ?_
  refine wp_region_held (S := fun wx => TCF w g b s A n c bs fc q wx) (by kernel_rfl) ?_
  change wpAnyH _ _ _ _ _ _ _ _ (World.drew _)
  obtain ⟨w5, hw5⟩ : ∃ x, x = wc.drew := ⟨_, rfl⟩
  rw [← hw5]
  have hS : TCF w g b s A n c bs fc q w5 := hw5 ▸ HS4.out.on (Below.refl _ _).drew
  clear hw5 HS4
  refine wpAnyH_take (i := 0) (v := ?_) rfl (by kernel_rfl) (by kernel_rfl) (by kernel_rfl) (fun _ _ _ h => h) (Or.inl ⟨by rfl, ?_⟩) hS ?_
  case refine_2 => (intro wz hz; go_simp; with_reducible rfl)
  simp only [Act.put, xgT, xgZ, xsT, xsS, xsZ]
  refine wpAnyH_take (i := 1) (v := ?_) rfl (by kernel_rfl) (by kernel_rfl) (by kernel_rfl) (fun _ _ _ h => h) (Or.inl ⟨by rfl, ?_⟩) hS ?_
  case refine_2 => (intro wz hz; go_simp; with_reducible rfl)
  simp only [Act.put, xgT, xgS, xgZ, xsT, xsS, xsZ]
  refine wpAnyH_take (i := 2) (v := ?_) rfl (by kernel_rfl) (by kernel_rfl) (by kernel_rfl) (fun _ _ _ h => h) (Or.inl ⟨by rfl, ?_⟩) hS ?_
  case refine_2 => (intro wz hz; go_simp; with_reducible rfl)
  simp only [Act.put, xgT, xgS, xgZ, xsT, xsS, xsZ]
  refine wpAnyH_take (i := 3) (v := ?_) rfl (by kernel_rfl) (by kernel_rfl) (by kernel_rfl) (fun _ _ _ h => h) (Or.inl ⟨by rfl, ?_⟩) hS ?_
  case refine_2 => (intro wz hz; go_simp; with_reducible rfl)
  simp only [Act.put, xgT, xgS, xgZ, xsT, xsS, xsZ]
  refine wpAnyH_take (i := 4) (v := .agg (cells s.y.key).toArray) rfl (by kernel_rfl) (by kernel_rfl) (by kernel_rfl) (fun _ _ _ h => h) (Or.inl ⟨by rfl, fun wz hz => ?_⟩) hS ?_
  · (exact run_ld 22 _ rfl g 0 (by rfl) (cells s.y.key) (hz.t.way.key HF.out) (row16 HKL.out))
  simp only [Act.put, xgT, xgS, xgZ, xsT, xsS, xsZ]
  refine wpAnyH_take (i := 5) (v := .agg (cells fc).toArray) rfl (by kernel_rfl) (by kernel_rfl) (by kernel_rfl) (fun _ _ _ h => h) (Or.inl ⟨by rfl, fun wz hz => ?_⟩) hS ?_
  · (exact run_ld 22 _ rfl q 0 (by rfl) (cells fc) (hz.fb.v.range 0 _ (by simp)) (row16 HFL.out))
  simp only [Act.put, xgT, xgS, xgZ, xsT, xsS, xsZ]
  refine wpAnyH_take (i := 6) (v := ?_) rfl (by kernel_rfl) (by kernel_rfl) (by kernel_rfl) (fun _ _ _ h => h) (Or.inl ⟨by rfl, ?_⟩) hS ?_
  case refine_2 => (intro wz hz; go_simp; with_reducible rfl)
  simp only [Act.put, xgT, xgS, xgZ, xsT, xsS, xsZ]
  refine wpAnyH_take (i := 7) (v := ?_) rfl (by kernel_rfl) (by kernel_rfl) (by kernel_rfl) (fun _ _ _ h => h) (Or.inl ⟨by rfl, ?_⟩) hS ?_
  case refine_2 => (intro wz hz; go_simp; with_reducible rfl)
  simp only [Act.put, xgT, xgS, xgZ, xsT, xsS, xsZ]
  refine anyH_one (i := 8) (by kernel_rfl) rfl rfl (fun H hH => ?_)
  simp only [xgT, xgS, xgZ]
  go_simp
  refine (HC.out w5 AL (c - 8) (HRL.out _ _ hS.t.rd)).mono ?_
  rintro e w6 ⟨v6, rfl, ho6, hb6⟩
  have hS6 := hS.on hb6
  have HO6 : Hid (w6.ownsRow w.heap.size 5 1 v6 (n - 8) (cells (cph s.y.key fc (bs.drop 8)))) := Lib.hid (own_mono ho6 hS.t.below.size)
  refine hH _ _ hS6 ?_
  clear hH hS hb6 ho6
  refine wpAnyH_take (i := 9) (v := ?_) rfl (by kernel_rfl) (by kernel_rfl) (by kernel_rfl) (fun _ _ _ h => h) (Or.inl ⟨by rfl, ?_⟩) hS6 ?_
  case refine_2 => (intro wz hz; go_simp; with_reducible rfl)
  simp only [Act.put, xgT, xgS, xgZ, xsT, xsS, xsZ]
  refine wpAnyH_done (by kernel_rfl) ?_ _
  refine NoPanic.normal ?_
  go_wp2
  go_ret
  exact ⟨v6, rfl, HO6.out, hS6.t.below⟩
set_option maxRecDepth 100000 in
set_option maxHeartbeats 1000000 in
theorem tagged16_any (g b : Nat) (s : Wc) (q k cp : Nat) (ps : List (List UInt8)) (N : Nat) (w : World) (h : PCtl w g b s) (hf : s.y.fit) (ht : Tabs w) (hp : PartsRd w (some ⟨q, 0, none⟩) k ps) (hk : k ≤ 1000) (hN : N = ps.flatten.length) (hl : N ≤ 50000) :
 Calls Tryz.prog 18 #[.pointer (some ⟨g, 0, none⟩), .slice (some ⟨q, 0, none⟩) k cp] w fun e w' => ∃ A' c', e = .returned (.slice A' (N + 10) c') ∧ BO w w' A' (N + 10) c' (ps.flatten ++ tagC s.y ps.flatten) := by
 have HCC := Lib.hid (concat_any (some ⟨q, 0, none⟩) k cp ps w hp hk (by omega))
 rw [← hN] at HCC
 have HW : Hid (∀ W, Below w.heap.size w W → PCtl W g b s ∧ Tabs W) := Lib.hid (fun W hb => ⟨h.below hb, ht.below hb⟩)
 obtain ⟨BS, hBS⟩ : ∃ BS, BS = ps.flatten := ⟨_, rfl⟩
 rw [← hBS] at HCC hN ⊢
 have HTG : Hid (∀ W A c, Below w.heap.size w W → RdS W A N c BS → Calls Tryz.prog 31 #[.slice (some ⟨g, 16, none⟩) 20 20, .int .i64 10, .slice (some ⟨W.heap.size, 0, none⟩) 1 1] (W.alloc (.cells #[.slice A N c] 32)) fun e w' => ∃ A', e = .returned (.slice A' 10 10) ∧ RdS w' A' 10 10 (tagC s.y BS) ∧ Below W.heap.size W w') := Lib.hid (fun W A c hb hr => by
  have hb1 : Below W.heap.size W (W.alloc (.cells #[.slice A N c] 32)) := (Below.refl _ _).alloc (Nat.le_refl _) _
  have hfl : [BS].flatten = BS := by simp
  have h2 := HW.out W hb
  refine (tag_any _ 20 20 s.y.auth 10 _ 1 1 [BS] _ (h2.2.below hb1).h (h2.2.below hb1).lt ((h2.1.auth hf).below hb1) (by omega) (by omega) (parts_lit1 hr _) (by omega) (by rw [hfl, hr.len]; omega)).mono ?_
  rintro e w' ⟨A', rfl, hr', hb'⟩
  rw [hfl] at hr'
  exact ⟨A', rfl, hr', hb1.trans (hb'.mono hb1.size)⟩)
 obtain ⟨TG, hTG⟩ : ∃ TG, TG = tagC s.y BS := ⟨_, rfl⟩
 rw [← hTG] at HTG ⊢
 clear h hf ht hp hk hN hBS hTG
 go_enter Tryz.func18, Tryz.ntmps18
 go_wp2_with (first
  | (go_at_call 24; ((with_reducible refine (HCC.out).mono ?_); rintro e w1 ⟨A1, c1, rfl, hb1⟩; have B1 := Lib.hid hb1; have BB1 := Lib.hid hb1.2; have R1 := Lib.hid hb1.rd; clear hb1))
  | (go_at_call 31; ((with_reducible refine (HTG.out w1 A1 c1 BB1.out R1.out).mono ?_); rintro e w2 ⟨A2, rfl, hr2, hb2⟩; have R2 := Lib.hid hr2; have B2 := Lib.hid (B1.out.below hb2); clear hr2 hb2))
  | (at_builtin; (refine wpList_append_rd _ rfl (.tmp 8) (.tmp 16) rfl Tryz.underlying32 u8_info w.heap.size (.slice A1 N c1) N BS rfl B2.out.1 A2 10 10 TG rfl R2.out (by omega) B2.out.2.size ?_; intro v3 w3 hown3 hg3 _; obtain ⟨A3, c3, hv3⟩ := own_formN hown3; subst hv3; have B3 := Lib.hid (B2.out.more hown3 hg3); clear hown3 hg3)))
 go_ret
 exact ⟨A3, c3, rfl, B3.out⟩
end Go.Proofs.YtheefckohnaceaaGreatDoor
