/- Several texts in one: plain words and walks. No statement is proved here. -/
import Derived.Test.YtmkeioeodlidgaaGreatDoorZM13
import Derived.Test.YtmkeioeodlidgaaGreatDoorZM4
import Derived.Test.YtmkeioeodlidgaaGreatDoorZM11
import Derived.Test.YtmkeioeodlidgaaGreatDoorZM5
import Derived.Test.YtmkeioeodlidgaaGreatDoorZM8
import Derived.Test.YtmkeioeodlidgaaGreatDoorZM0
import Derived.Test.YtmkeioeodlidgaaGreatDoorZM12
import Derived.Test.YtmkeioeodlidgaaGreatDoorProg
import Derived.KernelRfl
import Derived.Lib.Hide
import Derived.IntWalk
import Derived.Laws.Bits128
import Derived.BigQuiet
import Derived.StillTailTactics
namespace Go.Proofs.YtmkeioeodlidgaaGreatDoor
open List renaming getElem_toArray → xgT, getElem_cons_succ → xgS, getElem_cons_zero → xgZ, setIfInBounds_toArray → xsT, set_cons_succ → xsS, set_cons_zero → xsZ
open Go.RowKit
set_option linter.unusedVariables false

theorem own_at {w : World} {base : Nat} {e : TypeId} {A : Option Addr} {n c : Nat} {xs : List UInt8} (h : w.ownsRow base e 1 (.slice A n c) n (cells xs)) (hn : 0 < n) :
 ∃ g, A = some ⟨g, 0, none⟩ ∧ base ≤ g ∧ ∀ j, j < n → w.cell? ⟨g, j, none⟩ = some (.int .u8 ((xs.getD j 0).toNat : Int)) ∧ w.frozen? ⟨g, j, none⟩ = false := by
 have hr := RdS.of_own h
 obtain ⟨g, rfl, hb⟩ := own_blockN h hn
 obtain ⟨b, o, he, _, hc⟩ := hr.2.2.2.2 hn
 injection he with he
 injection he with h1 h2 _
 subst h1; subst h2
 refine ⟨g, rfl, hb, fun j hj => ⟨by have := hc j hj; rwa [Nat.zero_add] at this, ?_⟩⟩
 rcases h.2 with ⟨_, h0⟩ | ⟨g2, cap, cur, hv, _, hg, _⟩
 · omega
 · injection hv with h1 _ _
   injection h1 with h1
   injection h1 with h1 _ _
   subst h1
   exact frozen_of_row w g j _ e hg
theorem own_set {w : World} {base : Nat} {e : TypeId} {g n c : Nat} {xs : List UInt8} (h : w.ownsRow base e 1 (.slice (some ⟨g, 0, none⟩) n c) n (cells xs)) (hn : 0 < n) (j : Nat) (b : UInt8) :
 (w.setCell ⟨g, j, none⟩ (.int .u8 (b.toNat : Int))).ownsRow base e 1 (.slice (some ⟨g, 0, none⟩) n c) n (cells (xs.set j b)) := by
 obtain ⟨hl, h2⟩ := h
 refine ⟨by rw [length_cells, List.length_set, ← length_cells]; exact hl, ?_⟩
 rcases h2 with ⟨_, h0⟩ | ⟨g2, cap, cur, hv, hb, hg, h4, h5, h6, h7⟩
 · omega
 · injection hv with h1 _ hc
   injection h1 with h1
   injection h1 with h1 _ _
   subst h1; subst hc
   refine .inr ⟨g, c, cur.setIfInBounds j (.int .u8 (b.toNat : Int)), rfl, hb, heap_setCell_same w g j cur e _ hg, h4, h5, by simpa using h6, ?_⟩
   rw [Array.toList_setIfInBounds, List.take_set, h7, cells_set]
theorem own_empty1 (w : World) (o : Obj) : ((w.alloc o).alloc (.cells #[] 5)).ownsRow (w.heap.size + 1) 5 1 (.slice (some ⟨w.heap.size + 1, 0, none⟩) 0 0) 0 (cells []) := by
 have h := own_empty (w.alloc o)
 rwa [show (w.alloc o).heap.size = w.heap.size + 1 by show (w.heap.push o).size = _; simp] at h
theorem own_first1 {w w1 : World} {o : Obj} {v1 : Value} {nb : Nat} {bs : List UInt8} (hl : bs.length = nb) (h : w1.ownsRow (w.heap.size + 1) 5 1 v1 (0 + nb) (cells ([] ++ bs)))
 (hg : ((w.alloc o).alloc (.cells #[] 5)).grownBy w1 (Value.ownBlock (.slice (some ⟨w.heap.size + 1, 0, none⟩) 0 0))) :
 w1.ownsRow (w.heap.size + 1) 5 1 v1 nb (cells bs) ∧ Below (w.heap.size + 1) (w.alloc o) w1 := by
 have e : (w.alloc o).heap.size = w.heap.size + 1 := by show (w.heap.push o).size = _; simp
 rw [← e] at h hg ⊢
 exact own_first hl h hg
theorem two_size (w : World) (o o2 : Obj) : w.heap.size + 1 ≤ ((w.alloc o).alloc o2).heap.size := by show _ ≤ ((w.heap.push o).push o2).size; simp
def T13 (bs : List UInt8) (p : Nat) (w : World) (e : Ending) (w' : World) : Prop :=
 ((whyV bs = 0 ∧ hasV bs = true) → ∃ A' c' N, N = bs.length ∧ e = .returned (.tuple #[.slice A' N c', .bool true]) ∧ RdS w' A' N c' (trnV bs p)) ∧ (¬ (whyV bs = 0 ∧ hasV bs = true) → e = .returned (.tuple #[.slice none 0 0, .bool false])) ∧ Below w.heap.size w w'
theorem row30_ : RowTy Tryz.prog 25 30 := ⟨_, Tryz.underlying25, rfl, by kernel_rfl⟩
theorem row30 {n : Nat} (h : n = 30) : RowTy Tryz.prog 25 n := h ▸ row30_
theorem row50_ : RowTy Tryz.prog 49 50 := ⟨_, Tryz.underlying49, rfl, by kernel_rfl⟩
theorem row50 {n : Nat} (h : n = 50) : RowTy Tryz.prog 49 n := h ▸ row50_
theorem zero50 (w : World) : (zeroValue 49).run Tryz.prog w = .ok (.agg (cells Z50).toArray) w := by kernel_rfl
theorem key_boxes (w : World) (m : List UInt8) : Below w.heap.size w ((w.alloc (Obj.cells (cells m).toArray 25)).alloc (Obj.cells (cells Z16).toArray 22)) ∧
 Blk ((w.alloc (Obj.cells (cells m).toArray 25)).alloc (Obj.cells (cells Z16).toArray 22)) w.heap.size 25 m ∧
 Blk ((w.alloc (Obj.cells (cells m).toArray 25)).alloc (Obj.cells (cells Z16).toArray 22)) (w.heap.size + 1) 22 Z16 :=
 ⟨((Below.refl _ _).alloc (Nat.le_refl _) _).alloc (by simp) _, (Blk.new _ _ _).alloc _, Blk.new_at _ _ _ _ _ (by simp) rfl⟩
theorem bytesK_any (key c : List UInt8) (n : Int) (N : Nat) (w : World) (hk : key.length = 16) (hc : c.length = 16) (hn : n ≤ 4096) (hN : N = n.toNat) :
 Calls Tryz.prog 77 #[.agg (cells key).toArray, .agg (cells c).toArray, .int .i64 n] w fun e w' => ∃ A c', e = .returned (.slice A N c') ∧ RdS w' A N c' (strm key c N) ∧ Below w.heap.size w w' := by
 by_cases h : n < 1
 · have h0 : N = 0 := by omega
   subst h0
   exact (bytes_none key c n w h).mono fun e w' ⟨he, hb⟩ => ⟨none, 0, he, RdS.nil w', hb⟩
 · have hn2 : n = (N : Int) := by omega
   subst hn2
   exact (bytes_any key c N w hk hc (by omega) (by omega)).mono fun e w' ⟨g, he, _, hB, hb⟩ => ⟨some ⟨g, 0, none⟩, N, he, hB.rd (strm_len _ _ _) (Nat.le_refl _) (by simp only [maxLen]; omega), hb⟩

set_option maxRecDepth 100000 in
set_option maxHeartbeats 1000000 in
theorem derive_any (key salt : List UInt8) (l : Nat) (n : Int) (N : Nat) (w : World) (hk : key.length = 16) (hs : salt.length = 14) (hl : l < 256) (hn : n ≤ 4096) (hN : N = n.toNat) :
 Calls Tryz.prog 70 #[.agg (cells (mst key salt)).toArray, .int .u8 (l : Int), .int .i64 n] w fun e w' => ∃ A c', e = .returned (.slice A N c') ∧ RdS w' A N c' (drv key salt l N) ∧ Below w.heap.size w w' := by
 have hz := zero16
 obtain ⟨hb0, h0, h1⟩ := key_boxes w (mst key salt)
 have hsp := salt_splice salt hs
 have hmk := mst_key key salt hk
 have hms := mst_salt key salt hk
 have hby := fun wx => bytesK_any key (labC salt l) n N wx hk (labC_len salt l hs) hn hN
 have hll : (UInt8.ofNat l).toNat = l := by rw [UInt8.toNat_ofNat']; omega
 have hxr := xr8 ((saltZ salt).getD 7 0) (UInt8.ofNat l)
 rw [hll] at hxr
 have hlc : (saltZ salt).set 7 ((saltZ salt).getD 7 0 ^^^ UInt8.ofNat l) = labC salt l := rfl
 have hsz : (saltZ salt).length = 16 := saltZ_len _ hs
 obtain ⟨D, hD⟩ : ∃ D, D = drv key salt l N := ⟨_, rfl⟩
 have hD2 : strm key (labC salt l) N = D := by rw [hD]; rfl
 simp only [hD2] at hby
 rw [← hD]
 obtain ⟨C, hC⟩ : ∃ C, C = labC salt l := ⟨_, rfl⟩
 have hCl : (cells C).length = 16 := by rw [length_cells, hC, labC_len _ _ hs]
 simp only [← hC] at hby hlc
 obtain ⟨SZ, hSZ⟩ : ∃ SZ, SZ = saltZ salt := ⟨_, rfl⟩
 rw [← hSZ] at hsp hsz hlc hxr
 obtain ⟨V, hV⟩ : ∃ V, V = SZ.getD 7 0 ^^^ UInt8.ofNat l := ⟨_, rfl⟩
 rw [← hV] at hlc hxr
 obtain ⟨v, hv⟩ : ∃ v : Int, v = (V.toNat : Int) := ⟨_, rfl⟩
 obtain ⟨y, hy⟩ : ∃ y : Int, y = ((SZ.getD 7 0).toNat : Int) := ⟨_, rfl⟩
 rw [← hv, ← hy] at hxr
 obtain ⟨M, hM⟩ : ∃ M, M = mst key salt := ⟨_, rfl⟩
 rw [← hM] at h0 h1 hb0 hmk hms ⊢
 have hZL : (cells Z16).length = 16 := by rw [length_cells, Z16_len]
 have hKL : (cells key).length = 16 := by rw [length_cells, hk]
 have HZL := Lib.hid hZL
 have HKL := Lib.hid hKL
 have HCL := Lib.hid hCl
 have HSP := Lib.hid hsp
 have HMK := Lib.hid hmk
 have HMS := Lib.hid hms
 have HBY := Lib.hid hby
 have HLC := Lib.hid hlc
 have HSZ := Lib.hid hsz
 have HS := Lib.hid hs
 have HV := Lib.hid hv
 have HY := Lib.hid hy
 clear hsp hmk hms hby hll hlc hsz hD hD2 hC hCl hSZ hV hv hy hM hZL hKL hs hk hn hN
 go_enter Tryz.func70, Tryz.ntmps70
 go_wp2
 go_still_tail 3, (by kernel_rfl)
 change wpList _ _ _ _ _ (World.drew _)
 have k0 := h0.drew
 have k1 := h1.drew
 have kb := hb0.drew
 generalize ((w.alloc (Obj.cells (cells M).toArray 25)).alloc (Obj.cells (cells Z16).toArray 22)).drew = w2 at *
 clear h0 h1 hb0
 have ks := k0.rdAt 16 14 14 HS.out (Nat.le_refl 14) (by simp [maxLen]) HMS.out
 go_wp2_with (first
  | ((with_reducible refine wpList_cp rfl (.tmp 8) (.tmp 10) rfl Tryz.underlying35 u8_inf (w.heap.size + 1) 0 16 16 22 (cells Z16) rfl k1.v (some ⟨w.heap.size, 16, none⟩) 14 14 salt rfl ks (by rw [HZL.out]; omega) 14 (by decide) (by omega) ?_); intro w3 hB3 ho3; rw [HSP.out] at hB3; have hB3' : Blk w3 (w.heap.size + 1) 22 SZ := hB3; have j0 := Blk.only k0 ho3 (by omega); have jb := kb.trans (ho3.below (by omega)); have hcell := hB3'.cell (j := 7) (by rw [HSZ.out]; omega); rw [← HY.out] at hcell; have hfr := hB3'.frozen 7; have hst := hB3'.set_ 7 V; rw [HLC.out, ← HV.out] at hst; have j0s := j0.far (p := ⟨w.heap.size + 1, 7, none⟩) (by simp) (.int .u8 v); have jbs := jb.setCell (p := ⟨w.heap.size + 1, 7, none⟩) (by simp) (.int .u8 v))
  | (with_reducible refine wpList_ld rfl 22 (.tmp 17) rfl w.heap.size 0 rfl (cells key) (j0s.v.range 0 _ HMK.out) (row16 HKL.out) ?_)
  | (with_reducible refine wpList_ld rfl 22 (.tmp 7) rfl (w.heap.size + 1) 0 rfl (cells C) (hst.v.range 0 _ (by simp)) (row16 HCL.out) ?_)
  | (go_at_call 77; ((with_reducible refine (HBY.out _).mono ?_); rintro e w4 ⟨A4, c4, rfl, hr4, hb4⟩)))
 go_ret
 exact ⟨A4, c4, rfl, hr4, jbs.trans (hb4.mono jbs.size)⟩
structure Fr (F : Nat → Prop) (w w2 : World) : Prop where
 os : w2.os = w.os
 tape : w2.tape = w.tape
 output : w2.output = w.output
 size : w.heap.size ≤ w2.heap.size
 keep : ∀ k, k < w.heap.size → ¬ F k → w2.heap[k]? = w.heap[k]?
section
variable {F G : Nat → Prop} {w w2 w3 : World} {B : Nat}
theorem Fr.of_below (h : Below w.heap.size w w2) : Fr F w w2 := ⟨h.os, h.tape, h.output, h.size, fun k hk _ => h.block k hk⟩
theorem Fr.refl (F : Nat → Prop) (w : World) : Fr F w w := .of_below (Below.refl _ _)
theorem Fr.of_only {g : Nat} (h : Only g w w2) (hg : F g) : Fr F w w2 := ⟨h.os, h.tape, h.output, by rw [h.size]; exact Nat.le_refl _, fun k _ hk => h.block k (fun e => hk (by rw [e]; exact hg))⟩
theorem Fr.of_grown {row : Option Nat} (h : w.grownBy w2 row) (hr : ∀ p, row = some p → F p) : Fr F w w2 := ⟨h.os, h.tape, h.output, h.size, fun k hk hn => h.block k hk (fun e => hn (hr k e.symm))⟩
theorem Fr.trans (h : Fr F w w2) (k : Fr G w2 w3) (hG : ∀ i, G i → F i ∨ w.heap.size ≤ i) : Fr F w w3 :=
 ⟨k.os.trans h.os, k.tape.trans h.tape, k.output.trans h.output, Nat.le_trans h.size k.size, fun i hi hn => (k.keep i (Nat.lt_of_lt_of_le hi h.size) (fun hg => by
  rcases hG i hg with h1 | h1
  · exact hn h1
  · omega)).trans (h.keep i hi hn)⟩
theorem Fr.mono (h : Fr F w w2) (hF : ∀ i, F i → G i) : Fr G w w2 := ⟨h.os, h.tape, h.output, h.size, fun k hk hn => h.keep k hk (fun hf => hn (hF k hf))⟩
theorem Fr.then (h : Fr F w w2) (hb : Below w2.heap.size w2 w3) : Fr F w w3 := h.trans (G := fun _ => False) (.of_below hb) (fun _ hf => hf.elim)
theorem Fr.behind (hb : Below w.heap.size w w2) (h : Fr F w2 w3) : Fr F w w3 := (Fr.of_below (F := F) hb).trans h (fun i hi => .inl hi)
theorem Fr.below (h : Fr F w w2) (hF : ∀ k, F k → B ≤ k) (hB : B ≤ w.heap.size) : Below B w w2 := ⟨h.os, h.tape, h.output, h.size, fun k hk => h.keep k (by omega) (fun hf => by have := hF k hf; omega)⟩
theorem Fr.cell (h : Fr F w w2) {a : Addr} (ha : a.block < w.heap.size) (hn : ¬ F a.block) : w2.cell? a = w.cell? a := World.cell?_of_block (h.keep _ ha hn)
theorem BlkV.fr {g : Nat} {e : TypeId} {cs : List Value} (h : BlkV w g e cs) (hf : Fr F w w2) (hn : ¬ F g) : BlkV w2 g e cs := (hf.keep g h.lt hn).trans h
theorem Blk.fr {g : Nat} {e : TypeId} {bs : List UInt8} (h : Blk w g e bs) (hf : Fr F w w2) (hn : ¬ F g) : Blk w2 g e bs := (hf.keep g h.lt hn).trans h
theorem RdS.fr {A : Option Addr} {n c : Nat} {bs : List UInt8} (h : RdS w A n c bs) (hf : Fr F w w2) (hn : 0 < n → ∀ ad, A = some ad → ¬ F ad.block) : RdS w2 A n c bs := by
 refine ⟨h.1, h.2.1, h.2.2.1, h.2.2.2.1, fun h0 => ?_⟩
 obtain ⟨b, off, hA, hlt, hc⟩ := h.2.2.2.2 h0
 exact ⟨b, off, hA, Nat.lt_of_lt_of_le hlt hf.size, fun j hj => (hf.cell (a := ⟨b, off + j, none⟩) hlt (show ¬ F b from hn h0 ⟨b, off, none⟩ hA)).trans (hc j hj)⟩
end
structure Lone {σ : Type} (R : World → Value → σ → (Nat → Prop) → Prop) : Prop where
 low : ∀ w p s F, R w p s F → ∀ k, F k → k < w.heap.size
 stay : ∀ w w2 p s F, R w p s F → w.heap.size ≤ w2.heap.size → (∀ k, F k → w2.heap[k]? = w.heap[k]?) → R w2 p s F
theorem Lone.fr {σ : Type} {R : World → Value → σ → (Nat → Prop) → Prop} (h : Lone R) {w w2 : World} {p : Value} {s : σ} {F G : Nat → Prop} (hR : R w p s F) (hf : Fr G w w2) (hn : ∀ k, F k → ¬ G k) : R w2 p s F :=
 h.stay w w2 p s F hR hf.size (fun k hk => hf.keep k (h.low w p s F hR k hk) (hn k hk))
theorem Lone.below {σ : Type} {R : World → Value → σ → (Nat → Prop) → Prop} (h : Lone R) {w w2 : World} {p : Value} {s : σ} {F : Nat → Prop} (hR : R w p s F) (hb : Below w.heap.size w w2) : R w2 p s F :=
 h.fr (G := fun _ => False) hR (.of_below hb) (fun _ _ hf => hf)
theorem u8_info15 : (Tryz.prog.info? 5).map (fun i => (i.zero, i.size, i.bytes)) = some (some (.int .u8 0), 1, 1) := by kernel_rfl
theorem below_size1 {w w2 : World} {o : Obj} {B : Nat} (h : Below B (w.alloc o) w2) : w.heap.size + 1 ≤ w2.heap.size := by
 have := h.size
 rwa [show (w.alloc o).heap.size = w.heap.size + 1 by show (w.heap.push o).size = _; simp] at this
theorem ks_at (s : Wy) (h : s.fit) : (∀ i, i < (cells s.key).length → (cells s.ks)[0 + i]? = (cells s.key)[i]?) ∧ ∀ i, i < (cells s.salt).length → (cells s.ks)[36 + i]? = (cells s.salt)[i]? := by
 have hk := Wy.ks_len h
 have hf := h
 obtain ⟨h1, h2, h3, _⟩ := h
 refine ⟨fun i hi => ?_, fun i hi => ?_⟩
 · rw [length_cells] at hi
   rw [cells_at (by omega), cells_at (by omega), Nat.zero_add, ks_key hf (by omega)]
 · rw [length_cells] at hi
   rw [cells_at (by omega), cells_at (by omega), ks_salt hf (by omega)]
theorem turnW_len (s : Wy) (bs : List UInt8) (h so i n : Nat) (hl : bs.length = n) (hh : h ≤ n) : (turnW s bs h so i).length = n := by
 unfold turnW
 rw [List.length_append, List.length_take, cph_len, List.length_drop]
 omega
theorem tagW_len (s : Wy) (bs : List UInt8) (i : Nat) : (tagW s bs i).length = 10 := by
 unfold tagW
 rw [List.length_take, macFull_len]
 rfl
set_option maxRecDepth 100000 in
set_option maxHeartbeats 2000000 in
theorem rsealed15_any (s : Wy) (A : Option Addr) (n c : Nat) (bs : List UInt8) (h so i : Nat) (w : World) (hs : s.fit) (hr : RdS w A n c bs) (hn : n ≤ 4000) (hh : h ≤ n) (hso : so < 4294967296) (hi : i < 281474976710656) :
 Calls Tryz.prog 29 #[.agg (cells s.ks).toArray, .slice A n c, .int .i64 (h : Int), .int .u32 (so : Int), .int .i64 (i : Int)] w fun e w' => ∃ A' c', e = .returned (.slice A' (n + 10) c') ∧ BO w w' A' (n + 10) c' (sealB s bs h so i) := by
 have hB : BlkV (w.alloc (.cells (cells s.ks).toArray 49)) w.heap.size 49 (cells s.ks) := BlkV.new _ _ _
 have hb0 : Below w.heap.size w (w.alloc (.cells (cells s.ks).toArray 49)) := (Below.refl _ _).alloc (Nat.le_refl _) _
 have HB := Lib.hid hB
 have HB0 := Lib.hid hb0
 obtain ⟨hsk, hsa⟩ := ks_at s hs
 have HSK := Lib.hid hsk
 have HSA := Lib.hid hsa
 have HKL : Hid ((cells s.key).length = 16) := Lib.hid (by rw [length_cells, hs.1])
 have HSL : Hid ((cells s.salt).length = 14) := Lib.hid (by rw [length_cells, hs.2.2.1])
 have HKS : Hid ((cells s.ks).length = 50) := Lib.hid (by rw [length_cells, Wy.ks_len hs])
 have hl := hr.len
 have hle := hr.le
 have hmx := hr.max
 have HTL : Hid ((bs.take h).length = h) := Lib.hid (by rw [List.length_take]; omega)
 have HR0 : Hid (∀ W, Below w.heap.size w W → RdS W A n c bs) := Lib.hid (fun W hb => hr.below hb)
 have HH : Hid (∀ W, Below w.heap.size w W → RdS W A h c (bs.take h)) := Lib.hid (fun W hb => (hr.below hb).headR h (by omega))
 have HF : Hid (∀ W, Calls Tryz.prog 58 #[.agg (cells s.salt).toArray, .int .u32 (so : Int), .int .u64 (i : Int)] W fun e w' => e = .returned (.agg (cells (firstC s.salt so i)).toArray) ∧ Below W.heap.size W w') := Lib.hid (fun W => rfirst_any s.salt so i W hs.2.2.1 hso (by omega))
 have HC : Hid (∀ W A c, RdS W A (n - h) c (bs.drop h) → Calls Tryz.prog 57 #[.agg (cells s.key).toArray, .agg (cells (firstC s.salt so i)).toArray, .slice A (n - h) c] W fun e w' => ∃ v, e = .returned v ∧ w'.ownsRow W.heap.size 5 1 v (n - h) (cells (cph s.key (firstC s.salt so i) (bs.drop h))) ∧ Below W.heap.size W w') := Lib.hid (fun W A c hr => rcipher_any s.key _ A (n - h) c _ W hs.1 (firstC_len _ _ _ hs.2.2.1) hr (by omega))
 have HT : Hid (∀ W A c, RdS W A n c (turnW s bs h so i) → Calls Tryz.prog 18 #[.agg (cells s.ks).toArray, .slice A n c, .int .i64 (i : Int)] W fun e w' => ∃ A' c', e = .returned (.slice A' 10 c') ∧ RdS w' A' 10 c' (tagW s (turnW s bs h so i) i) ∧ Below W.heap.size W w') := Lib.hid (fun W A c hr => rtag15_any s A n c _ i W hs hr (by omega) (by omega))
 have HTW : Hid (bs.take h ++ cph s.key (firstC s.salt so i) (bs.drop h) = turnW s bs h so i) := Lib.hid rfl
 have HSB : Hid (turnW s bs h so i ++ tagW s (turnW s bs h so i) i = sealB s bs h so i) := Lib.hid rfl
 have ew : IntKind.u64.wrap (i : Int) = (i : Int) := by rw [IntKind.wrap_u64]; omega
 have hhc : h ≤ c := by omega
 obtain ⟨tw, htw⟩ : ∃ tw, tw = turnW s bs h so i := ⟨_, rfl⟩
 rw [← htw] at HT HTW HSB
 obtain ⟨fc, hfc⟩ : ∃ fc, fc = firstC s.salt so i := ⟨_, rfl⟩
 rw [← hfc] at HF HC HTW
 obtain ⟨K, hK⟩ : ∃ K, K = cells s.ks := ⟨_, rfl⟩
 rw [← hK] at HB HB0 HT HKS HSK HSA ⊢
 have hnh : h + (n - h) = n := by omega
 clear hr hB hb0 hs hsk hsa hl htw hfc hK
 go_enter Tryz.func29, Tryz.ntmps29
 go_upto_region 2 with (first
  | (at_builtin; (refine wpList_append_rd _ rfl (.tmp 12) (.tmp 15) rfl Tryz.underlying35 u8_info15 (w.heap.size + 1) (.slice (some ⟨w.heap.size + 1, 0, none⟩) 0 0) 0 [] rfl (own_empty1 w _) A h c (bs.take h) rfl (HH.out _ (HB0.out.alloc HB0.out.size _)) (by omega) (two_size w _ _) ?_); intro v2 w2 hown2 hg2 hat2; obtain ⟨ho, hb⟩ := own_first1 HTL.out hown2 hg2; obtain ⟨A1, c1, hv1⟩ := own_formN ho; subst hv1; have OW := Lib.hid ho; have HBB := Lib.hid hb; clear hown2 hg2 hat2 ho hb))
 have hS2 : BlkV w2 w.heap.size 49 K := HB.out.below (HBB.out.mono (by simp)) HB.out.lt
 clear HB
 obtain ⟨AL, eL, eL2, hrl⟩ := run_lo A n c h (h : Int) rfl hh hle hmx
 have HRL := Lib.hid hrl
 clear hrl
 have hS : BlkV w2.drew w.heap.size 49 K := hS2
 have HOW := Lib.hid (own_below OW.out ((Below.refl _ _).drew))
 have HB3 := Lib.hid (HBB.out.trans (((Below.refl w2.heap.size w2).drew).mono (below_size1 HBB.out)))
 clear OW HBB hS2
 refine wp_region_noPanic ?_
 refine wp_region_held (S := fun wx => BlkV wx w.heap.size 49 K) (by kernel_rfl) ?_
 change wpAnyH _ _ _ _ _ _ _ _ (World.drew _)
 generalize w2.drew = w3 at *
 refine wpAnyH_take (i := 0) (v := ?_) rfl (by kernel_rfl) (by kernel_rfl) (by kernel_rfl) (fun _ _ _ h => h) (Or.inl ⟨by rfl, ?_⟩) hS ?_
 case refine_2 => (intro wz hz; go_simp; with_reducible rfl)
 simp only [Act.put, xgT, xgZ, xsT, xsS, xsZ]
 refine wpAnyH_take (i := 1) (v := ?_) rfl (by kernel_rfl) (by kernel_rfl) (by kernel_rfl) (fun _ _ _ h => h) (Or.inl ⟨by rfl, ?_⟩) hS ?_
 case refine_2 => (intro wz hz; go_simp; with_reducible rfl)
 simp only [Act.put, xgT, xgS, xgZ, xsT, xsS, xsZ]
 refine wpAnyH_take (i := 2) (v := .agg (cells s.key).toArray) rfl (by kernel_rfl) (by kernel_rfl) (by kernel_rfl) (fun _ _ _ h => h) (Or.inl ⟨by rfl, fun wz hz => ?_⟩) hS ?_
 · exact run_ld 22 _ rfl w.heap.size 0 (by rfl) (cells s.key) (hz.range 0 _ HSK.out) (row16 HKL.out)
 simp only [Act.put, xgT, xgS, xgZ, xsT, xsS, xsZ]
 refine wpAnyH_take (i := 3) (v := ?_) rfl (by kernel_rfl) (by kernel_rfl) (by kernel_rfl) (fun _ _ _ h => h) (Or.inl ⟨by rfl, ?_⟩) hS ?_
 case refine_2 => (intro wz hz; go_simp; with_reducible rfl)
 simp only [Act.put, xgT, xgS, xgZ, xsT, xsS, xsZ]
 refine wpAnyH_take (i := 4) (v := .agg (cells s.salt).toArray) rfl (by kernel_rfl) (by kernel_rfl) (by kernel_rfl) (fun _ _ _ h => h) (Or.inl ⟨by rfl, fun wz hz => ?_⟩) hS ?_
 · exact run_ld 23 _ rfl w.heap.size 36 (by rfl) (cells s.salt) (hz.range 36 _ HSA.out) (row14 HSL.out)
 simp only [Act.put, xgT, xgS, xgZ, xsT, xsS, xsZ]
 refine wpAnyH_take (i := 5) (v := ?_) rfl (by kernel_rfl) (by kernel_rfl) (by kernel_rfl) (fun _ _ _ h => h) (Or.inl ⟨by rfl, ?_⟩) hS ?_
 case refine_2 => (intro wz hz; go_simp; with_reducible rfl)
 simp only [Act.put, xgT, xgS, xgZ, xsT, xsS, xsZ]
 refine wpAnyH_take (i := 6) (v := ?_) rfl (by kernel_rfl) (by kernel_rfl) (by kernel_rfl) (fun _ _ _ h => h) (Or.inl ⟨by rfl, ?_⟩) hS ?_
 case refine_2 => (intro wz hz; go_simp; with_reducible rfl)
 simp only [Act.put, xgT, xgS, xgZ, xsT, xsS, xsZ]
 refine wpAnyH_take (i := 7) (v := ?_) rfl (by kernel_rfl) (by kernel_rfl) (by kernel_rfl) (fun _ _ _ h => h) (Or.inl ⟨by rfl, ?_⟩) hS ?_
 case refine_2 => (intro wz hz; go_simp; with_reducible rfl)
 simp only [Act.put, xgT, xgS, xgZ, xsT, xsS, xsZ]
 refine wpAnyH_take (i := 9) (v := ?_) rfl (by kernel_rfl) (by kernel_rfl) (by kernel_rfl) (fun _ _ _ h => h) (Or.inl ⟨by rfl, ?_⟩) hS ?_
 case refine_2 => (intro wz hz; go_simp; with_reducible rfl)
 simp only [Act.put, xgT, xgS, xgZ, xsT, xsS, xsZ]
 refine wpAnyH_take (i := 10) (v := ?_) rfl (by kernel_rfl) (by kernel_rfl) (by kernel_rfl) (fun _ _ _ h => h) (Or.inl ⟨by rfl, ?_⟩) hS ?_
 case refine_2 => (intro wz hz; go_simp; with_reducible rfl)
 simp only [Act.put, xgT, xgS, xgZ, xsT, xsS, xsZ]
 refine wpAnyH_take (i := 11) (v := ?_) rfl (by kernel_rfl) (by kernel_rfl) (by kernel_rfl) (fun _ _ _ h => h) (Or.inl ⟨by rfl, ?_⟩) hS ?_
 case refine_2 => (intro wz hz; go_simp; with_reducible rfl)
 simp only [Act.put, xgT, xgS, xgZ, xsT, xsS, xsZ]
 refine anyH_one (i := 8) (by kernel_rfl) rfl rfl (fun H hH => ?_)
 simp only [xgT, xgS, xgZ]
 go_simp
 refine (HF.out _).mono ?_
 rintro e w4 ⟨rfl, hb4⟩
 have hS4 : BlkV w4 w.heap.size 49 K := hS.below hb4 hS.lt
 have HOW4 := Lib.hid (own_below HOW.out hb4)
 have HB4 := Lib.hid (HB3.out.trans (hb4.mono (below_size1 HB3.out)))
 refine hH _ _ hS4 ?_
 clear hH H hS HOW HB3 hb4 HF
 refine anyH_one (i := 12) (by kernel_rfl) rfl rfl (fun H hH => ?_)
 simp only [xgT, xgS, xgZ]
 go_simp
 refine (HC.out w4 AL (c - h) (HRL.out _ _ (HR0.out _ (HB0.out.trans (HB4.out.mono (Nat.le_succ _)))))).mono ?_
 rintro e w5 ⟨v5, rfl, ho5, hb5⟩
 obtain ⟨A5, c5, hv5⟩ := own_formN ho5
 subst hv5
 have hS5 : BlkV w5 w.heap.size 49 K := hS4.below hb5 hS4.lt
 have HOW5 := Lib.hid (own_below HOW4.out hb5)
 have HB5 := Lib.hid (HB4.out.trans (hb5.mono (below_size1 HB4.out)))
 have HR5 := Lib.hid (RdS.of_own ho5)
 refine hH _ _ hS5 ?_
 clear hH H hS4 HOW4 HB4 hb5 HC ho5
 refine anyH_one (i := 13) (by kernel_rfl) rfl rfl (fun H hH => ?_)
 simp only [xgT, xgS, xgZ]
 refine wp_append_rd _ (.tmp 17) (.tmp 29) rfl Tryz.underlying35 u8_info15 (w.heap.size + 1) (.slice A1 h c1) h (bs.take h) (by rfl) HOW5.out A5 (n - h) c5 _ (by rfl) HR5.out (by omega) (below_size1 HB5.out) ?_
 intro v6 w6 hown6 hg6 hat6
 rw [hnh, HTW.out] at hown6
 obtain ⟨A6, c6, hv6⟩ := own_formN hown6
 subst hv6
 have hS6 : BlkV w6 w.heap.size 49 K := hS5.grown hg6 (fun e => by have := (HOW5.out.lt _ e.symm).1; omega)
 have HB6 := Lib.hid (HB5.out.grown hg6 (below_size1 HB5.out) (fun p hp => (HOW5.out.lt p hp).1))
 have HOW6 := Lib.hid hown6
 refine hH _ _ hS6 ?_
 clear hH H hS5 HOW5 HB5 hg6 hat6 HR5 HTW hown6
 refine wpAnyH_take (i := 14) (v := ?_) rfl (by kernel_rfl) (by kernel_rfl) (by kernel_rfl) (fun _ _ _ h => h) (Or.inl ⟨by rfl, ?_⟩) hS6 ?_
 case refine_2 => (intro wz hz; go_simp; with_reducible rfl)
 simp only [Act.put, xgT, xgS, xgZ, xsT, xsS, xsZ]
 refine wpAnyH_done (by kernel_rfl) ?_ _
 refine NoPanic.normal ?_
 have RD6 := Lib.hid (RdS.of_own HOW6.out)
 have RG6 := Lib.hid (hS6.range 0 K (fun i _ => by rw [Nat.zero_add]))
 have RT6 : Hid (RowTy Tryz.prog 49 K.length) := Lib.hid (row50 HKS.out)
 go_wp2_with (first
  | (with_reducible refine wpList_ld rfl 49 (.tmp 5) rfl w.heap.size 0 rfl K RG6.out RT6.out ?_)
  | (go_at_call 18; ((with_reducible refine (HT.out w6 A6 c6 RD6.out).mono ?_); rintro e w7 ⟨A7, c7, rfl, hr7, hb7⟩; have HOW7 := Lib.hid (own_below HOW6.out hb7); have HB7 := Lib.hid (HB6.out.trans (hb7.mono (below_size1 HB6.out))); have HR7 := Lib.hid hr7; clear hr7 hb7))
  | (at_builtin; refine wpList_append_rd _ rfl (.tmp 31) (.tmp 35) rfl Tryz.underlying35 u8_info15 (w.heap.size + 1) (.slice A6 n c6) n _ rfl HOW7.out A7 10 c7 _ rfl HR7.out (by omega) (below_size1 HB7.out) ?_; intro v8 w8 hown8 hg8 _; obtain ⟨A8, c8, hv8⟩ := own_formN hown8; subst hv8; rw [HSB.out] at hown8; have HB8 := Lib.hid (HB7.out.grown hg8 (below_size1 HB7.out) (fun p hp => (HOW7.out.lt p hp).1)); have HOW8 := Lib.hid hown8; clear hown8 hg8))

 go_ret
 exact ⟨A8, c8, rfl, own_lower HOW8.out (Nat.le_succ _), HB0.out.trans (HB8.out.mono (Nat.le_succ _))⟩
theorem ret_i {k : IntKind} {a b : Int} (h : a = b) : Ending.returned (.int k a) = .returned (.int k b) := by rw [h]
theorem ret_b {a b : Bool} (h : a = b) : Ending.returned (.bool a) = .returned (.bool b) := by rw [h]

def winC (h : Int) (p : Nat) : List Value := [.int .i64 h, .int .u64 (p : Int)]
def WinAt (w : World) (g : Nat) (L : List Int) : Prop := ∃ h p, WinS L h p ∧ BlkV w g 98 (winC h p)
section
variable {w w' : World} {g : Nat} {L : List Int}
theorem WinAt.lt (h : WinAt w g L) : g < w.heap.size := by obtain ⟨_, _, _, hB⟩ := h; exact hB.lt
theorem WinAt.below (h : WinAt w g L) (hb : Below w.heap.size w w') : WinAt w' g L := by obtain ⟨x, p, hW, hB⟩ := h; exact ⟨x, p, hW, hB.below hb hB.lt⟩
theorem WinAt.drew (h : WinAt w g L) : WinAt w.drew g L := h
theorem WinAt.only (h : WinAt w g L) {k : Nat} (hb : Only k w w') (hg : g ≠ k) : WinAt w' g L := by obtain ⟨x, p, hW, hB⟩ := h; exact ⟨x, p, hW, hB.only hb hg⟩
theorem WinAt.grown (h : WinAt w g L) {row : Option Nat} (hb : w.grownBy w' row) (hg : some g ≠ row) : WinAt w' g L := by obtain ⟨x, p, hW, hB⟩ := h; exact ⟨x, p, hW, hB.grown hb hg⟩
end

theorem told_some (g : Nat) (h : Int) (p : Nat) (w : World) (hB : BlkV w g 98 (winC h p)) :
 Calls Tryz.prog 67 #[.pointer (some ⟨g, 0, none⟩)] w fun e w' => e = .returned (.int .u64 (p : Int)) ∧ w = w' := by
 have hc : w.cell? ⟨g, 1, none⟩ = some (.int .u64 (p : Int)) := (hB.cell 1).trans rfl
 clear hB
 go_enter Tryz.func67, Tryz.ntmps67
 go_wp2
 go_ret
 exact ⟨rfl, rfl⟩
theorem high_any (g : Nat) (L : List Int) (w : World) (hW : WinAt w g L) :
 Calls Tryz.prog 40 #[.pointer (some ⟨g, 0, none⟩)] w fun e w' => e = .returned (.int .i64 (hiL L)) ∧ w = w' := by
 obtain ⟨h, p, hS, hB⟩ := hW
 have hc : w.cell? ⟨g, 0, none⟩ = some (.int .i64 h) := (hB.cell 0).trans rfl
 have hh := hS.high
 have HT := Lib.hid (told_some g h p w hB)
 obtain ⟨H, hH⟩ : ∃ H, H = hiL L := ⟨_, rfl⟩
 rw [← hH] at hh ⊢
 clear hH hB hS
 by_cases h0 : p = 0
 · rw [if_pos h0] at hh
   subst hh
   subst h0
   go_enter Tryz.func40, Tryz.ntmps40
   go_wp2_with (go_at_call 67; ((with_reducible refine (Hid.out HT).mono ?_); rintro e w' ⟨rfl, rfl⟩))
   go_ret
   exact ⟨rfl, rfl⟩
 · rw [if_neg h0] at hh
   subst hh
   have hd : ((p : Int) == 0) = false := by simp; omega
   go_enter Tryz.func40, Tryz.ntmps40
   go_wp2_with (go_at_call 67; ((with_reducible refine (Hid.out HT).mono ?_); rintro e w' ⟨rfl, rfl⟩))
   go_ret
   exact ⟨rfl, rfl⟩
theorem has_any (p n : Nat) (b : Bool) (w : World) (hp : p < 18446744073709551616) (hn : n < 64) (hb : p.testBit n = b) :
 Calls Tryz.prog 85 #[.int .u64 (p : Int), .int .i64 (n : Int)] w fun e w' => e = .returned (.bool b) ∧ w = w' := by
 have h1 : (p : Int) / 2 ^ n = ((p / 2 ^ n : Nat) : Int) := by simp
 have h2 : p / 2 ^ n ≤ p := Nat.div_le_self _ _
 have h3 : (p / 2 ^ n) % 2 = if b = true then 1 else 0 := by
  rw [← hb, Nat.testBit_eq_decide_div_mod_eq]
  have := Nat.mod_two_eq_zero_or_one (p / 2 ^ n)
  rcases this with h | h <;> simp [h]
 obtain ⟨q, hq⟩ : ∃ q, q = p / 2 ^ n := ⟨_, rfl⟩
 rw [← hq] at h1 h2 h3
 have h4 : bits BinOp.and IntKind.u64 (q : Int) 1 = ((if b = true then 1 else 0 : Nat) : Int) := by
  have h := u64_and_nat q 1 (by omega) (by omega)
  rw [Nat.and_one_is_mod, h3] at h
  exact h
 clear h3 hb hq
 have hn' : (n : Int) < 64 := by omega
 cases b
 · simp only [Bool.false_eq_true, if_false] at h4
   go_enter Tryz.func85, Tryz.ntmps85
   go_wp2
   go_ret
   exact ⟨rfl, rfl⟩
 · simp only [if_true] at h4
   go_enter Tryz.func85, Tryz.ntmps85
   go_wp2
   go_ret
   exact ⟨rfl, rfl⟩
theorem fresh_any (g : Nat) (L : List Int) (i : Int) (w : World) (hW : WinAt w g L) (hi : i ≤ 9223372036854775807) (ht : hiL L ≤ 9223372036854775807) :
 Calls Tryz.prog 61 #[.pointer (some ⟨g, 0, none⟩), .int .i64 i] w fun e w' => e = .returned (.bool (frL L i)) ∧ w = w' := by
 have hlow := hiL_low L
 have HH := Lib.hid (high_any g L w hW)
 by_cases h0 : i < 0
 · rw [fr_neg h0]
   clear hW hlow HH
   go_enter Tryz.func61, Tryz.ntmps61
   go_wp2
   go_ret
   exact ⟨rfl, rfl⟩
 have h0' : 0 ≤ i := by omega
 clear h0
 by_cases h1 : hiL L < i
 · rw [fr_above h0' h1]
   obtain ⟨H, hH⟩ : ∃ H, H = hiL L := ⟨_, rfl⟩
   rw [← hH] at h1 hlow ht HH
   clear hH hW
   go_enter Tryz.func61, Tryz.ntmps61
   go_wp2_with (go_at_call 40; ((with_reducible refine (Hid.out HH).mono ?_); rintro e w' ⟨rfl, rfl⟩))
   go_ret
   exact ⟨rfl, rfl⟩
 have h1' : i ≤ hiL L := by omega
 clear h1
 obtain ⟨x, p, hS, hB⟩ := hW
 have HT := Lib.hid (told_some g x p w hB)
 have hmf : ∀ (fn : Fn) (first cap : Array Value) (w : World), (Instr.makeFunc fn first cap).run Tryz.prog w = .ok (.func fn first cap) w := fun _ _ _ _ => rfl
 by_cases h2 : 64 ≤ hiL L - i
 · rw [fr_far h2]
   obtain ⟨H, hH⟩ : ∃ H, H = hiL L := ⟨_, rfl⟩
   rw [← hH] at h1' h2 hlow ht HH
   clear hH hS hB
   go_enter Tryz.func61, Tryz.ntmps61
   go_wp2_with (first
    | (go_at_call 40; ((with_reducible refine (Hid.out HH).mono ?_); rintro e w' ⟨rfl, rfl⟩))
    | (go_at_call 67; ((with_reducible refine (Hid.out HT).mono ?_); rintro e w' ⟨rfl, rfl⟩)))
   go_ret
   exact ⟨rfl, rfl⟩
 · obtain ⟨n, hn⟩ := Int.eq_ofNat_of_zero_le (show 0 ≤ hiL L - i by omega)
   have hb := hS.near h0' h1' n hn (by omega)
   obtain ⟨b, hbb⟩ : ∃ b, b = p.testBit n := ⟨_, rfl⟩
   have HA := Lib.hid (fun w => has_any p n b w hS.lt (by omega) hbb.symm)
   rw [hb, ← hbb]
   have h2' : (n : Int) < 64 := by omega
   obtain ⟨H, hH⟩ : ∃ H, H = hiL L := ⟨_, rfl⟩
   rw [← hH] at h1' h2 hlow ht HH hn
   clear hH hS hB hb hbb h2
   go_enter Tryz.func61, Tryz.ntmps61
   go_wp2_with (first
    | (go_at_call 40; ((with_reducible refine (Hid.out HH).mono ?_); rintro e w' ⟨rfl, rfl⟩))
    | (go_at_call 67; ((with_reducible refine (Hid.out HT).mono ?_); rintro e w' ⟨rfl, rfl⟩))
    | (go_at_call 85; ((with_reducible refine (Hid.out HA _).mono ?_); rintro e w' ⟨rfl, rfl⟩)))
   go_ret
   exact ⟨rfl, rfl⟩

theorem shl_bits (p d : Nat) : Op.shift .shl .u64 (p : Int) .i64 (d : Int) = pure (.int .u64 ((p * 2 ^ d % 18446744073709551616 : Nat) : Int)) := by
 have h0 : ¬ ((d : Int) < 0) := by omega
 unfold Op.shift
 rw [if_neg h0]
 simp only [Int.toNat_natCast, IntKind.bits]
 by_cases h : d ≤ 64
 · rw [Nat.min_eq_left h, IntKind.wrap_u64]
   simp
 · rw [Nat.min_eq_right (by omega), IntKind.wrap_u64]
   obtain ⟨c, rfl⟩ : ∃ c, d = 64 + c := ⟨d - 64, by omega⟩
   have e : p * 2 ^ (64 + c) % 18446744073709551616 = 0 := by
    rw [Nat.pow_add, show (2 : Nat) ^ 64 = 18446744073709551616 by decide, ← Nat.mul_assoc, Nat.mul_comm p, Nat.mul_assoc]
    exact Nat.mul_mod_right _ _
   rw [e]
   congr 2
   have : (2 : Int) ^ 64 = 18446744073709551616 := by decide
   rw [this]
   omega

set_option maxRecDepth 100000 in
theorem mark_any (g : Nat) (L : List Int) (i : Int) (w : World) (hW : WinAt w g L) (hi : i ≤ 9223372036854775807) (ht : hiL L ≤ 9223372036854775807) :
 Calls Tryz.prog 63 #[.pointer (some ⟨g, 0, none⟩), .int .i64 i] w fun e w' => e = .returned (.int .i64 (if frL L i = true then 0 else 5)) ∧ WinAt w' g (mkL L i) ∧ Only g w w' := by
 have hfr := fresh_any g L i w hW hi ht
 cases hf : frL L i
 · rw [hf] at hfr
   rw [mkL_not hf]
   have HF := Lib.hid hfr
   have HW := Lib.hid hW
   clear hfr hf hW
   simp only [Bool.false_eq_true, if_false]
   go_enter Tryz.func63, Tryz.ntmps63
   go_wp2_with (go_at_call 61; ((with_reducible refine (Hid.out HF).mono ?_); rintro e w' ⟨rfl, rfl⟩))
   go_ret
   exact ⟨rfl, HW.out, Only.refl _ _⟩
 rw [hf] at hfr
 have hf0 := ((frL_iff L i).1 hf).1
 obtain ⟨x, p, hS, hB⟩ := hW
 have hxp := hS.hpos
 simp only [if_true]
 have HF := Lib.hid hfr
 have hc0 : w.cell? ⟨g, 0, none⟩ = some (.int .i64 x) := (hB.cell 0).trans rfl
 have hc1 : w.cell? ⟨g, 1, none⟩ = some (.int .u64 (p : Int)) := (hB.cell 1).trans rfl
 have hr0 := hB.frozen 0
 have hr1 := hB.frozen 1
 by_cases hx : x < i
 · obtain ⟨d, hd⟩ := Int.eq_ofNat_of_zero_le (show 0 ≤ i - x by omega)
   have hU := hS.up hx d hd
   have hsh := shl_bits p d
   obtain ⟨P, hP⟩ : ∃ P, P = p * 2 ^ d % 18446744073709551616 := ⟨_, rfl⟩
   rw [← hP] at hU hsh
   have hor : bits .or .u64 (P : Int) 1 = ((P ||| 1 : Nat) : Int) := u64_or_nat P 1 (by omega) (by omega)
   obtain ⟨Q, hQ⟩ : ∃ Q, Q = P ||| 1 := ⟨_, rfl⟩
   rw [← hQ] at hU hor
   have hw1 : IntKind.i64.wrap (d : Int) = (d : Int) := IntWalk.i64_in _ (by omega)
   have hO0 := (Only.refl g w).drew
   have hBd := hB.drew
   have HU := Lib.hid hU
   have HB := Lib.hid (And.intro hBd hO0)
   clear hU hP hQ hS hfr hf hBd hO0 hB
   go_enter Tryz.func63, Tryz.ntmps63
   go_wp2_with (go_at_call 61; ((with_reducible refine (Hid.out HF).mono ?_); rintro e w' ⟨rfl, rfl⟩))
   go_still_tail 13, (by kernel_rfl)
   change wpList _ _ _ _ _ (World.drew w)
   clear hc0 hc1 hr0 hr1 HF
   generalize w.drew = w2 at *
   have HB := HB.out
   have hc0 : w2.cell? ⟨g, 0, none⟩ = some (.int .i64 x) := (HB.1.cell 0).trans rfl
   have hc1 : w2.cell? ⟨g, 1, none⟩ = some (.int .u64 (p : Int)) := (HB.1.cell 1).trans rfl
   have hr0 := HB.1.frozen 0
   have hr1 := HB.1.frozen 1
   have hB2 := (HB.1.set_ 1 (.int .u64 (P : Int))).set_ 0 (.int .i64 i)
   have hO2 := HB.2.trans ((Only.set w2 g 1 (.int .u64 (P : Int))).trans (Only.set _ g 0 (.int .i64 i)))
   have HB2 := Lib.hid (And.intro hB2 hO2)
   clear HB hB2 hO2
   go_wp2
   generalize (w2.setCell ⟨g, 1, none⟩ (.int .u64 (P : Int))).setCell ⟨g, 0, none⟩ (.int .i64 i) = w3 at *
   clear hc0 hc1 hr0 hr1
   have hc0 : w3.cell? ⟨g, 0, none⟩ = some (.int .i64 i) := (HB2.out.1.cell 0).trans rfl
   have hc1 : w3.cell? ⟨g, 1, none⟩ = some (.int .u64 (P : Int)) := (HB2.out.1.cell 1).trans rfl
   have hii : IntKind.i64.wrap 0 = 0 := IntWalk.i64_in _ (by omega)
   have hiu : IntKind.u64.wrap 1 = 1 := IntWalk.u64_in _ (by omega)
   have hsh1 : Op.shift .shl .u64 1 .i64 0 = pure (.int .u64 1) := shl_bits 1 0
   go_still_tail 14, (by kernel_rfl)
   change wpList _ _ _ _ _ (World.drew w3)
   have hB3 := HB2.out.1.drew
   have hO3 := HB2.out.2.drew
   clear hc0 hc1
   generalize w3.drew = w4 at *
   have hr1 := hB3.frozen 1
   have hc1 : w4.cell? ⟨g, 1, none⟩ = some (.int .u64 (P : Int)) := (hB3.cell 1).trans rfl
   have hB4 := hB3.set_ 1 (.int .u64 (Q : Int))
   have hO4 := hO3.trans (Only.set _ g 1 (.int .u64 (Q : Int)))
   clear hB3 hO3
   go_wp2
   go_ret
   exact ⟨rfl, ⟨i, Q, HU.out, hB4⟩, hO4⟩
 · obtain ⟨d, hd⟩ := Int.eq_ofNat_of_zero_le (show 0 ≤ x - i by omega)
   obtain ⟨hU, hd6⟩ := hS.in (by omega) hf d hd
   have hsh : Op.shift .shl .u64 1 .i64 (d : Int) = pure (.int .u64 ((2 ^ d : Nat) : Int)) := by
    have h := shl_bits 1 d
    rw [Nat.one_mul, Nat.mod_eq_of_lt (by rw [two64]; exact Nat.pow_lt_pow_right (by decide) hd6)] at h
    exact h
   have hpl : 2 ^ d < 18446744073709551616 := by rw [two64]; exact Nat.pow_lt_pow_right (by decide) hd6
   have he : (2 : Int) ^ d = ((2 ^ d : Nat) : Int) := by simp
   obtain ⟨R, hR⟩ : ∃ R, R = 2 ^ d := ⟨_, rfl⟩
   rw [← hR] at hU hsh hpl he
   have hpw : IntKind.u64.wrap (2 ^ d) = (R : Int) := by rw [he]; exact IntWalk.u64_in _ (by omega)
   clear he
   have hor := u64_or_nat p R hS.lt hpl
   obtain ⟨Q, hQ⟩ : ∃ Q, Q = p ||| R := ⟨_, rfl⟩
   rw [← hQ] at hU hor
   have hw1 : IntKind.i64.wrap (d : Int) = (d : Int) := IntWalk.i64_in _ (by omega)
   have HU := Lib.hid hU
   have hBd := hB.drew
   have hO0 := (Only.refl g w).drew
   have HB := Lib.hid (And.intro hBd hO0)
   clear hU hQ hR hS hfr hf hBd hO0 hB hpl
   go_enter Tryz.func63, Tryz.ntmps63
   go_wp2_with (go_at_call 61; ((with_reducible refine (Hid.out HF).mono ?_); rintro e w' ⟨rfl, rfl⟩))
   go_still_tail 14, (by kernel_rfl)
   change wpList _ _ _ _ _ (World.drew w)
   clear hc0 hc1 hr0 hr1 HF
   generalize w.drew = w4 at *
   have hB3 := HB.out.1
   have hO3 := HB.out.2
   have hr1 := hB3.frozen 1
   have hc1 : w4.cell? ⟨g, 1, none⟩ = some (.int .u64 (p : Int)) := (hB3.cell 1).trans rfl
   have hB4 := hB3.set_ 1 (.int .u64 (Q : Int))
   have hO4 := hO3.trans (Only.set _ g 1 (.int .u64 (Q : Int)))
   clear hB3 hO3 HB
   go_wp2
   go_ret
   exact ⟨rfl, ⟨x, Q, HU.out, hB4⟩, hO4⟩
end Go.Proofs.YtmkeioeodlidgaaGreatDoor
