/- Several texts in one: plain words and walks. No statement is proved here. -/
import Derived.Test.YtheefckohnaceaaGreatDoorZM4
import Derived.Test.YtheefckohnaceaaGreatDoorZM0
import Derived.Test.YtheefckohnaceaaGreatDoorZM3
import Derived.Deep.RegionHeld3
import Derived.IntWalk
namespace Go.Proofs.YtheefckohnaceaaGreatDoor
open Go.RowKit
set_option linter.unusedVariables false

theorem u32_info : (Tryz.prog.info? 36).map (fun i => (i.zero, i.size, i.bytes)) = some (some (.int .u32 0), 1, 4) := by kernel_rfl
theorem zeros_on (n k : Nat) (hk : k < zeros n) : (n + 1 + k) % 64 ≠ 56 := by unfold zeros at hk; omega
theorem zeros_end (n : Nat) : (n + 1 + zeros n) % 64 = 56 := by unfold zeros; omega
theorem zeros_lt (n : Nat) : zeros n < 64 := by unfold zeros; omega

theorem c32_snoc (l : List Nat) (x : Nat) : c32 (l ++ [x]) = c32 l ++ [.int .u32 (x : Int)] := by simp [c32]
structure Env (w : World) (gr gh B : Nat) (v3 : Value) (L : Nat) (bb : List UInt8) (hs : S5) (wx : World) : Prop where
 own : wx.ownsRow (w.heap.size + 1) 5 1 v3 L (cells bb)
 h : BlkV wx gh 36 (c32 hs.l)
 res : BlkV wx gr 40 (cells (List.replicate 20 0))
 below : Below w.heap.size w wx
 ltv : ∀ g, v3.ownBlock = some g → g < B
 lth : gh < B
 ltr : gr < B
 neh : v3.ownBlock ≠ some gh
 nrh : gr ≠ gh
 hi : w.heap.size ≤ gh
 size : B ≤ wx.heap.size
section
variable {w wx wy : World} {gr gh B : Nat} {v3 : Value} {L : Nat} {bb : List UInt8} {hs : S5}
theorem Env.grown {row : Option Nat} (h : Env w gr gh B v3 L bb hs wx) (hg : wx.grownBy wy row) (hr : ∀ g, row = some g → B ≤ g) : Env w gr gh B v3 L bb hs wy := by
 have hB : w.heap.size ≤ B := Nat.le_trans h.hi (Nat.le_of_lt h.lth)
 refine ⟨h.own.kept hg ?_, h.h.grown hg ?_, h.res.grown hg ?_, h.below.grown hg h.below.size (fun g e => Nat.le_trans hB (hr g e)), h.ltv, h.lth, h.ltr, h.neh, h.nrh, h.hi, Nat.le_trans h.size hg.size⟩
 · cases hv : v3.ownBlock with
   | none => exact .inl rfl
   | some g => exact .inr fun e => by have := hr g e.symm; have := h.ltv g hv; omega
 · exact fun e => by have := hr _ e.symm; have := h.lth; omega
 · exact fun e => by have := hr _ e.symm; have := h.ltr; omega
theorem Env.alloc (h : Env w gr gh B v3 L bb hs wx) (o : Obj) : Env w gr gh B v3 L bb hs (wx.alloc o) := h.grown (World.grownBy_alloc wx o none) (by simp)
theorem Env.drewN (h : Env w gr gh B v3 L bb hs wx) (n : Nat) : Env w gr gh B v3 L bb hs (wx.drewN n) := h.grown (row := none) ⟨rfl, rfl, rfl, Nat.le_refl _, fun _ _ _ => rfl⟩ (by simp)
theorem Env.raise (h : Env w gr gh B v3 L bb hs wx) : Env w gr gh wx.heap.size v3 L bb hs wx :=
 ⟨h.own, h.h, h.res, h.below, fun g hg => (h.own.lt g hg).2, h.h.lt, h.res.lt, h.neh, h.nrh, h.hi, Nat.le_refl _⟩
theorem Env.set (h : Env w gr gh B v3 L bb hs wx) (i : Nat) (v : Value) (hs' : S5) (he : (c32 hs.l).set i v = c32 hs'.l) : Env w gr gh B v3 L bb hs' (wx.setCell ⟨gh, i, none⟩ v) := by
 have ho := Only.set wx gh i v
 refine ⟨h.own.kept ho.grown (.inr h.neh), ?_, h.res.only ho h.nrh, h.below.trans (ho.below h.hi), h.ltv, h.lth, h.ltr, h.neh, h.nrh, h.hi, by rw [ho.size]; exact h.size⟩
 have := h.h.set_ i v
 rwa [he] at this
theorem Env.next {s r : S5} (h : Env w gr gh B v3 L bb s wx) : Env w gr gh B v3 L bb (s.plus r) (((((wx.setCell ⟨gh, 0, none⟩ (.int .u32 (((s.a : Int) + r.a) % 4294967296))).setCell ⟨gh, 1, none⟩ (.int .u32 (((s.b : Int) + r.b) % 4294967296))).setCell ⟨gh, 2, none⟩ (.int .u32 (((s.c : Int) + r.c) % 4294967296))).setCell ⟨gh, 3, none⟩ (.int .u32 (((s.d : Int) + r.d) % 4294967296))).setCell ⟨gh, 4, none⟩ (.int .u32 (((s.e : Int) + r.e) % 4294967296))) :=
 ((((h.set 0 _ ⟨(s.a + r.a) % 4294967296, s.b, s.c, s.d, s.e⟩ rfl).set 1 _ ⟨(s.a + r.a) % 4294967296, (s.b + r.b) % 4294967296, s.c, s.d, s.e⟩ rfl).set 2 _ ⟨(s.a + r.a) % 4294967296, (s.b + r.b) % 4294967296, (s.c + r.c) % 4294967296, s.d, s.e⟩ rfl).set 3 _ ⟨(s.a + r.a) % 4294967296, (s.b + r.b) % 4294967296, (s.c + r.c) % 4294967296, (s.d + r.d) % 4294967296, s.e⟩ rfl).set 4 _ (s.plus r) rfl
end

theorem own_monoH {w : World} {base base' : Nat} {e : TypeId} {v : Value} {n : Nat} {xs : List Value} (h : w.ownsRow base e 1 v n xs) (hb : base' ≤ base) : w.ownsRow base' e 1 v n xs := by
 refine ⟨h.1, ?_⟩
 rcases h.2 with hn | ⟨g, cap, cur, hv, hg, rest⟩
 · exact .inl hn
 · exact .inr ⟨g, cap, cur, hv, Nat.le_trans hb hg, rest⟩
theorem rd_byte (w : World) (b : UInt8) (x : Int) (hx : x = (b.toNat : Int)) : RdS (w.alloc (.cells #[.int .u8 x] 5)) (some ⟨w.heap.size, 0, none⟩) 1 1 [b] := by
 subst hx
 exact (show Blk (w.alloc (.cells #[.int .u8 (b.toNat : Int)] 5)) w.heap.size 5 [b] from Blk.new w _ [b]).rd rfl (Nat.le_refl _) (by simp [maxLen])

set_option maxRecDepth 100000 in
set_option maxHeartbeats 4000000 in
theorem rsum_any (A : Option Addr) (nb c : Nat) (bs : List UInt8) (w : World) (hr : RdS w A nb c bs) (hs : nb ≤ 500000) :
 Calls Tryz.prog 45 #[.slice A nb c] w fun e w' => e = .returned (.agg (cells (shaSum bs)).toArray) ∧ Below w.heap.size w w' := by
 have hl := hr.len
 have HLB := Lib.hid hl
 clear hl
 obtain ⟨C, hC⟩ : ∃ C, C = (cells (List.replicate 20 0)).toArray := ⟨_, rfl⟩
 have hT := (BlkV.new_at w w.heap.size 40 (cells (List.replicate 20 0)) C rfl hC).alloc (.cells #[] 5)
 have hb1 : Below w.heap.size w ((w.alloc (.cells C 40)).alloc (.cells #[] 5)) := ((Below.refl _ _).alloc (Nat.le_refl _) _).alloc (by simp) _
 have hrC := hr.below hb1
 have hown := own_empty (w.alloc (.cells C 40))
 simp only [World.size_alloc] at hown
 have hC' : C = #[.int .u8 0, .int .u8 0, .int .u8 0, .int .u8 0, .int .u8 0, .int .u8 0, .int .u8 0, .int .u8 0, .int .u8 0, .int .u8 0, .int .u8 0, .int .u8 0, .int .u8 0, .int .u8 0, .int .u8 0, .int .u8 0, .int .u8 0, .int .u8 0, .int .u8 0, .int .u8 0] := hC
 rw [hC'] at hT hb1 hrC hown
 clear hC hC' hr
 have HT := Lib.hid hT
 clear hT
 go_enter Tryz.func45, Tryz.ntmps45
 go_wp2_with (first
  | (at_builtin; refine wpList_append_rd _ rfl (.tmp 19) (.tmp 20) rfl Tryz.underlying32 u8_infoR (w.heap.size + 1) (.slice (some ⟨w.heap.size + 1, 0, none⟩) 0 0) 0 [] rfl hown A nb c bs rfl hrC (by omega) (by simp) ?_; intro v1 w2 hown1 hg1 hat1; have hT2 := HT.out.grown hg1 (by simp [Value.ownBlock]); have hb2 := hb1.grown hg1 (by simp; omega) (fun q hq => by simp [Value.ownBlock] at hq; omega))
  | (at_builtin; refine wpList_append_rd _ rfl (.tmp 22) (.tmp 23) rfl Tryz.underlying32 u8_infoR (w.heap.size + 1) v1 nb bs rfl ((by simpa using hown1 : w2.ownsRow (w.heap.size + 1) 5 1 v1 nb (cells bs)).alloc _) (some ⟨w2.heap.size, 0, none⟩) 1 1 [128] rfl (rd_byte w2 128 128 rfl) (by omega) (by have := hT2.lt; simp; omega) ?_; intro v2 w3 hown2 hg2 hat2))
 have hlt1 := hown1.lt
 have hT3 := (hT2.alloc (.cells #[.int .u8 128] 5)).grown hg2 (fun e => by have := (hlt1 _ e.symm).1; omega)
 have hb3 := (hb2.alloc hb2.size (.cells #[.int .u8 128] 5)).grown hg2 (by have := hb2.size; simp; omega) (fun q hq => by have := (hlt1 q hq).1; omega)
 clear hlt1 hown1 hg1 hat1 hT2 hb2 hg2 hat2 hb1 hown HT
 go_loopw [3] (fun v wr => ∃ (k M : Nat) (A' : Option Addr) (c' : Nat), k ≤ zeros nb ∧ Hid (M = nb + 1 + k) ∧ v = .slice A' M c' ∧ wr.ownsRow (w.heap.size + 1) 5 1 (.slice A' M c') M (cells (bs ++ [128] ++ List.replicate k 0)) ∧ BlkV wr w.heap.size 40 (cells (List.replicate 20 0)) ∧ Below w.heap.size w wr) (fun v _ => nb + 1 + zeros nb - lenOf v)
 case atStart =>
  obtain ⟨A', c', hv⟩ := own_form hown2
  exact ⟨0, nb + 1, A', c', by omega, Lib.hid rfl, hv, by subst hv; simpa using hown2, hT3, hb3⟩
 case round =>
  obtain ⟨k, M, A', c', hk, hM, rfl, hor, hT, hbr⟩ := hrel
  have hz64 := zeros_lt nb
  by_cases hlt : k < zeros nb
  · have hMn : M ≤ nb + 1 + k := by have := hM.out; omega
    have hMn' : nb + 1 + k ≤ M := by have := hM.out; omega
    have h0 := zeros_on nb k hlt
    have hd : ((M : Int) % 64 == 56) = false := by
     have : M % 64 ≠ 56 := by rw [hM.out]; exact h0
     simp; omega
    have hd' : ((M : Int) % 64 != 56) = true := by simp [bne, hd]
    clear h0
    go_wp2_with (at_builtin; refine wpList_append_rd _ rfl (.tmp 29) (.tmp 30) rfl Tryz.underlying32 u8_infoR (w.heap.size + 1) (.slice A' M c') M (bs ++ [128] ++ List.replicate k 0) rfl (hor.alloc _) (some ⟨wr.heap.size, 0, none⟩) 1 1 [0] rfl (rd_byte wr 0 0 rfl) (by omega) (by have := hT.lt; simp; omega) ?_; intro v2 w2 hown2 hg2 hat2)
    obtain ⟨A2, c2, hv2⟩ := own_form hown2
    have hltb := hor.lt
    have hb2 := (hbr.alloc hbr.size (.cells #[.int .u8 0] 5)).grown hg2 (Nat.le_trans hbr.size (by simp)) (fun q hq => by have := (hltb q hq).1; omega)
    have hT2 := (hT.alloc (.cells #[.int .u8 0] 5)).grown hg2 (fun e => by have := (hltb _ e.symm).1; omega)
    have hown3 : w2.ownsRow (w.heap.size + 1) 5 1 (.slice A2 (M + 1) c2) (M + 1) (cells (bs ++ [128] ++ List.replicate (k + 1) 0)) := by
     rw [hv2, List.append_assoc (bs ++ [128]), ← List.replicate_succ'] at hown2
     exact hown2
    have hM2 : Hid (M + 1 = nb + 1 + (k + 1)) := Lib.hid (by omega)
    rw [hv2]
    go_roundw
    case rel => exact ⟨k + 1, M + 1, A2, c2, by omega, hM2, rfl, hown3, hT2, hb2⟩
    case measure => simp [lenOf]; omega
  · obtain ⟨z, hz⟩ : ∃ z, z = zeros nb := ⟨_, rfl⟩
    have hkz : k = z := by omega
    subst hkz
    have hend := zeros_end nb
    rw [← hz] at hend
    have hMle : M ≤ 500064 := by have := hM.out; omega
    have hd : (M : Int) % 64 = 56 := by
     have := hM.out
     omega
    have hrd := RdS.of_own hor
    have hbe : bs ++ [128] ++ List.replicate k 0 ++ beb 8 (nb * 8) = bs ++ padBH bs.length := by
     unfold padBH
     rw [HLB.out, ← hz]
     simp
    have hput : Calls Tryz.prog 67 #[.slice A' M c', .int .i64 8, .int .u64 ((nb : Int) * 8)] wr (Made wr (bs ++ padBH bs.length)) := by
     have := rput_some A' M c' _ 8 (nb * 8) wr hrd (by omega) (by omega) (by omega) (by omega)
     rw [hbe] at this
     exact this
    have hL : (bs ++ padBH bs.length).length = M + 8 := by
     rw [← hbe, List.length_append, length_beb, hrd.len]
    have hblk : (bs ++ padBH bs.length).length % 64 = 0 := by rw [List.length_append]; exact padB_end _
    rw [← HLB.out] at hbe
    obtain ⟨bb, hbb⟩ : ∃ bb, bb = bs ++ padBH bs.length := ⟨_, rfl⟩
    have hsum : shaSum bs = toldN (hN bb (bb.length / 64)) 20 := by unfold shaSum; rw [← hbb]
    have HSUM := Lib.hid hsum
    rw [← hbb] at hput hL hblk
    obtain ⟨L, hLL⟩ : ∃ L, L = bb.length := ⟨_, rfl⟩
    rw [← hLL] at hL hblk
    have HP := Lib.hid hput
    have HL := Lib.hid hLL
    have hLle : L ≤ 500072 := by omega
    clear hput hbe hbb hsum hz hend hLL hz64 hlt hk hL
    have hbs := hbr.size
    go_wp2_with (go_at_call 67; ((with_reducible refine (Hid.out HP).mono ?_); rintro e w4 ⟨v4, rfl, hown4, hb4⟩))
    obtain ⟨A4, c4, hv4⟩ := own_form hown4
    subst hv4
    have hlt4 := hown4.lt
    have hTlt := hT.lt
    obtain ⟨gh, hgh⟩ : ∃ gh, gh = w4.heap.size := ⟨_, rfl⟩
    have hEnv : Env w w.heap.size gh (gh + 1) (.slice A4 L c4) L bb h0 (w4.alloc (.cells #[.int .u32 1732584193, .int .u32 4023233417, .int .u32 2562383102, .int .u32 271733878, .int .u32 3285377520] 36)) := by
     refine ⟨?_, BlkV.new_at _ _ _ _ _ hgh.symm rfl, (hT.below hb4 hTlt).alloc _, (hbr.trans (hb4.mono hbs)).alloc (by have := hb4.size; omega) _, ?_, by omega, ?_, ?_, ?_, ?_, ?_⟩
     · rw [HL.out] at *
       exact (own_monoH hown4 (by omega)).alloc _
     · intro g hg
       have := (hlt4 g (by rw [HL.out] at hg; exact hg)).2
       omega
     · have := hb4.size; omega
     · intro hg
       have := (hlt4 gh (by rw [HL.out] at hg; exact hg)).2
       omega
     · have := hb4.size; omega
     · have := hb4.size; omega
     · simp; omega
    rw [← HL.out, ← hgh]
    clear hgh hlt4 hTlt hown4 hb4 hT hbr hor hrd hbs
    generalize w4.alloc (.cells #[.int .u32 1732584193, .int .u32 4023233417, .int .u32 2562383102, .int .u32 271733878, .int .u32 3285377520] 36) = w5 at *
    go_loopw [5] (fun i wr => ∃ (q at_ B : Nat), Hid (at_ = 64 * q) ∧ at_ ≤ L ∧ i = .int .i64 at_ ∧ Env w w.heap.size gh B (.slice A4 L c4) L bb (hN bb q) wr) (fun i _ => L - (intOf i).toNat)
    case atStart => exact ⟨0, 0, gh + 1, Lib.hid rfl, by omega, rfl, hEnv⟩
    case round =>
     clear hEnv
     obtain ⟨q, at_, B, hq, hqL, rfl, henv⟩ := hrel
     by_cases hat : at_ < L
     · have hat64 : at_ + 64 ≤ L := by have := hq.out; omega
       have hati : (at_ : Int) < (L : Int) := by omega
       have hE2 := henv.raise
       have hbl : ((bb.drop at_).take 64).length = 64 := by
        have := HL.out
        rw [List.length_take, List.length_drop]
        omega
       have hwordq : ∀ t, t < 16 → numb ((bb.drop (at_ + 4 * t)).take 4) = word ((bb.drop at_).take 64) t := by
        intro t ht
        unfold word
        rw [List.drop_take, List.take_take, List.drop_drop, show min 4 (64 - 4 * t) = 4 by omega]
       have hbq : (bb.drop at_).take 64 = (bb.drop (64 * q)).take 64 := by rw [hq.out]
       obtain ⟨blk, hblkk⟩ : ∃ blk, blk = (bb.drop at_).take 64 := ⟨_, rfl⟩
       rw [← hblkk] at hbl hwordq hbq
       have HBQ := Lib.hid hbq
       have HWQ := Lib.hid hwordq
       have HBL := Lib.hid hbl
       clear hbl hwordq hbq hblkk henv
       obtain ⟨B2, hB2⟩ : ∃ B2, B2 = wr.heap.size := ⟨_, rfl⟩
       rw [← hB2] at hE2
       clear hB2
       go_wp2
       go_loopw [6, 7] (fun v6 vt wx => ∃ (t : Nat) (A6 : Option Addr) (c6 : Nat), t ≤ 80 ∧ vt = .int .i64 t ∧ v6 = .slice A6 t c6 ∧ wx.ownsRow B2 36 1 (.slice A6 t c6) t (c32 (wds blk t)) ∧ Env w w.heap.size gh B2 (.slice A4 L c4) L bb (hN bb q) wx) (fun _ i _ => 80 - (intOf i).toNat)
       case atStart => exact ⟨0, none, 0, by omega, rfl, rfl, World.ownsRow_nil _ _ _ _, hE2⟩
       case round =>
        clear hE2
        obtain ⟨t, A6, c6, ht, rfl, rfl, hor, hE⟩ := hrel
        have hBsz := hE.size
        have hlt6 := hor.lt
        have HLT6 := Lib.hid hlt6
        clear hlt6
        by_cases ht16 : t < 16
        · have hrd := RdS.of_own hE.own
          have hnum : Calls Tryz.prog 68 #[.slice A4 L c4, .int .i64 ((at_ : Int) + 4 * (t : Int)), .int .i64 4] wr fun e w' => e = .returned (.int .u64 ((word blk t : Nat) : Int)) ∧ wr = w' := by
           have := rnum_yes A4 L c4 bb (at_ + 4 * t) 4 wr hrd (by omega) (by omega) (by omega)
           rw [HWQ.out t ht16] at this
           exact this
          have hxl := word_lt blk t
          have hnx := wds_low blk t ht16
          obtain ⟨x, hx⟩ : ∃ x, x = word blk t := ⟨_, rfl⟩
          rw [← hx] at hnum hxl hnx
          have HNUM := Lib.hid hnum
          have HNX := Lib.hid hnx
          clear hnum hnx hx hrd
          have hti : (t : Int) < 16 := by omega
          go_wp2_with (first
           | (go_at_call 68; ((with_reducible refine (Hid.out HNUM).mono ?_); rintro e w' ⟨rfl, rfl⟩))
           | (at_builtin; refine wpList_app1 _ rfl (.tmp 51) (.tmp 59) rfl Tryz.underlying43 u32_info rfl (by omega) B2 (.slice A6 t c6) t (c32 (wds blk t)) rfl (hor.alloc _) ⟨wr.heap.size, 0, none⟩ 1 rfl (.int .u32 (x : Int)) (cell_one_new _ _ _ 0 _ rfl) rfl (by omega) (by simp; omega) ?_; intro v6 w6 hown6 hg6 hat6 hkeep6))
          obtain ⟨A7, c7, hv7⟩ := own_form hown6
          rw [← c32_snoc, ← HNX.out] at hown6
          have hE6 := (hE.alloc (.cells #[.int .u32 (x : Int)] 36)).grown hg6 (fun g e => (HLT6.out g e).1)
          rw [hv7] at hown6
          rw [hv7]
          clear hor hE hg6 hat6 hkeep6 hv7
          go_roundw
          case rel => exact ⟨t + 1, A7, c7, by omega, by go_num, rfl, hown6, hE6⟩
          case measure => simp [intOf]; omega
        · by_cases ht80 : t < 80
          · have hx := wdx blk t (by omega)
            obtain ⟨x, hxx⟩ : ∃ x, x = (((wds blk t).getD (t - 16 + 13) 0 ^^^ (wds blk t).getD (t - 16 + 8) 0 ^^^ (wds blk t).getD (t - 16 + 2) 0 ^^^ (wds blk t).getD (t - 16) 0 : Nat)) := ⟨_, rfl⟩
            have hxl := nextX_lt (wds_lt blk t) (t - 16)
            have hnx : wds blk (t + 1) = wds blk t ++ [rot 1 x] := by rw [wds_high blk t (by omega), nextW, hxx]
            rw [← hxx] at hx hxl
            have HNX := Lib.hid hnx
            clear hnx hxx
            obtain ⟨g6, c6', hv6, _, hg6l⟩ := hor.form (by omega)
            injection hv6 with hA6 _ hc6
            subst hA6
            subst hc6
            have hrow := fun j (hj : j < t) => (hor.cellAt j (by omega)).trans (c32_at (l := wds blk t) (by rw [wds_len]; exact hj))
            have c3 := hrow (t - 3) (by omega)
            have c8 := hrow (t - 8) (by omega)
            have c14 := hrow (t - 14) (by omega)
            have c16 := hrow (t - 16) (by omega)
            clear hrow
            obtain ⟨y1, hy1⟩ : ∃ y : Nat, y = (wds blk t).getD (t - 3) 0 := ⟨_, rfl⟩
            obtain ⟨y2, hy2⟩ : ∃ y : Nat, y = (wds blk t).getD (t - 8) 0 := ⟨_, rfl⟩
            obtain ⟨y3, hy3⟩ : ∃ y : Nat, y = (wds blk t).getD (t - 14) 0 := ⟨_, rfl⟩
            obtain ⟨y4, hy4⟩ : ∃ y : Nat, y = (wds blk t).getD (t - 16) 0 := ⟨_, rfl⟩
            rw [← hy1] at c3 hx
            rw [← hy2] at c8 hx
            rw [← hy3] at c14 hx
            rw [← hy4] at c16 hx
            clear hy1 hy2 hy3 hy4
            have D0 : ∀ wx : World, (∀ j, j < t → wx.cell? ⟨g6, j, none⟩ = wr.cell? ⟨g6, j, none⟩) → (wx.cell? ⟨g6, t - 3, none⟩ = some (.int .u32 (y1 : Int)) ∧ wx.cell? ⟨g6, t - 8, none⟩ = some (.int .u32 (y2 : Int)) ∧ wx.cell? ⟨g6, t - 14, none⟩ = some (.int .u32 (y3 : Int)) ∧ wx.cell? ⟨g6, t - 16, none⟩ = some (.int .u32 (y4 : Int))) := fun wx h => ⟨(h _ (by omega)).trans c3, (h _ (by omega)).trans c8, (h _ (by omega)).trans c14, (h _ (by omega)).trans c16⟩
            have hk1 : ∀ j, j < t → wr.drew.cell? ⟨g6, j, none⟩ = wr.cell? ⟨g6, j, none⟩ := fun j _ => rfl
            have hk2 : ∀ (o : Obj) j, j < t → (wr.drew.alloc o).cell? ⟨g6, j, none⟩ = wr.cell? ⟨g6, j, none⟩ := fun o j _ => World.cell?_alloc_lt wr.drew o ⟨g6, j, none⟩ hg6l
            have hk3 : ∀ (o : Obj) j, j < t → (wr.alloc o).drew.cell? ⟨g6, j, none⟩ = wr.cell? ⟨g6, j, none⟩ := fun o j _ => World.cell?_alloc_lt wr o ⟨g6, j, none⟩ hg6l
            have HK3 := Lib.hid hk3
            clear hk3
            have horD : wr.drew.ownsRow B2 36 1 (.slice (some ⟨g6, 0, none⟩) t c6) t (c32 (wds blk t)) := hor
            have HL1 : Hid (∀ wz : World, Calls Tryz.prog 69 #[.int .u32 (x : Int), .int .u64 1] wz fun e w' => e = .returned (.int .u32 ((rot 1 x : Nat) : Int)) ∧ wz = w') := Lib.hid fun wz => left1 x wz hxl
            have hti : (16 : Int) ≤ (t : Int) := by omega
            have htd : decide ((t : Int) < 16) = false := by simp; omega
            have hti8 : (t : Int) < 80 := by omega
            have hED : Env w w.heap.size gh B2 (.slice A4 L c4) L bb (hN bb q) wr.drew := hE.drewN 1
            have HD0 := Lib.hid D0
            have HK1 := Lib.hid hk1
            have HK2 := Lib.hid hk2
            have HORD := Lib.hid horD
            have hBz : B2 ≤ wr.drew.heap.size := hBsz
            clear D0 hk1 hk2 horD hor c3 c8 c14 c16
            go_wp2
            have s3 : IntKind.i64.wrap ((t : Int) - 3) = (t : Int) - 3 := IntWalk.i64_in _ (by omega)
            have p3 : 0 ≤ (t : Int) - 3 := by omega
            have t3 : 3 ≤ (t : Int) := by omega
            have r3 : ((t : Int) - 3).toNat = t - 3 := by omega
            have q3 : (t : Int) - 3 < (t : Int) := by omega
            have s8 : IntKind.i64.wrap ((t : Int) - 8) = (t : Int) - 8 := IntWalk.i64_in _ (by omega)
            have p8 : 0 ≤ (t : Int) - 8 := by omega
            have t8 : 8 ≤ (t : Int) := by omega
            have r8 : ((t : Int) - 8).toNat = t - 8 := by omega
            have q8 : (t : Int) - 8 < (t : Int) := by omega
            have s14 : IntKind.i64.wrap ((t : Int) - 14) = (t : Int) - 14 := IntWalk.i64_in _ (by omega)
            have p14 : 0 ≤ (t : Int) - 14 := by omega
            have t14 : 14 ≤ (t : Int) := by omega
            have r14 : ((t : Int) - 14).toNat = t - 14 := by omega
            have q14 : (t : Int) - 14 < (t : Int) := by omega
            have s16 : IntKind.i64.wrap ((t : Int) - 16) = (t : Int) - 16 := IntWalk.i64_in _ (by omega)
            have p16 : 0 ≤ (t : Int) - 16 := by omega
            have t16 : 16 ≤ (t : Int) := by omega
            have r16 : ((t : Int) - 16).toNat = t - 16 := by omega
            have q16 : (t : Int) - 16 < (t : Int) := by omega
            go_region_held3 (fun wx => wx.cell? ⟨g6, t - 3, none⟩ = some (.int .u32 (y1 : Int)) ∧ wx.cell? ⟨g6, t - 8, none⟩ = some (.int .u32 (y2 : Int)) ∧ wx.cell? ⟨g6, t - 14, none⟩ = some (.int .u32 (y3 : Int)) ∧ wx.cell? ⟨g6, t - 16, none⟩ = some (.int .u32 (y4 : Int)))
             (with_reducible (first | exact HD0.out _ HK1.out | exact HD0.out _ (HK3.out _) | exact HD0.out _ hk6 | fail))
             (first
               | (go_at_call 69; refine (Hid.out HL1 _).mono ?_; rintro e w' ⟨rfl, rfl⟩)
               | (refine step_app1 _ (by rfl) (.tmp 61) (.tmp 86) (by rfl) Tryz.underlying43 u32_info rfl (by omega) B2 (.slice (some ⟨g6, 0, none⟩) t c6) t (c32 (wds blk t)) (by rfl) (HORD.out.alloc _) ⟨wr.heap.size, 0, none⟩ 1 (by rfl) (.int .u32 ((rot 1 x : Nat) : Int)) (cell_one_new _ _ _ 0 _ rfl) rfl (by omega) (by simp; omega) ?_; intro v6 w6 hown6 hg6 hat6 hkeep6; have hk6 : ∀ j, j < t → w6.cell? ⟨g6, j, none⟩ = wr.cell? ⟨g6, j, none⟩ := fun j hj => (hkeep6 g6 rfl j hj).trans (HK2.out _ j hj))
               | fail)
            obtain ⟨A7, c7, hv7⟩ := own_form hown6
            rw [← c32_snoc, ← HNX.out] at hown6
            have hE6 := (hED.alloc (.cells #[.int .u32 ((rot 1 x : Nat) : Int)] 36)).grown hg6 (fun g e => (HLT6.out g e).1)
            rw [hv7] at hown6
            rw [hv7]
            clear s3 s8 s14 s16 p3 p8 p14 p16 t3 t8 t14 t16 r3 r8 r14 r16 q3 q8 q14 q16 hE hED hg6 hat6 hkeep6 hv7 hx HK1 HK2 HK3 HORD HD0 hk6
            go_wp2
            go_roundw
            case rel => exact ⟨t + 1, A7, c7, by omega, by go_num, rfl, hown6, hE6⟩
            case measure => simp [intOf]; omega
          · obtain rfl : t = 80 := by omega
            have hwl := wds_lt blk 80
            have hwn := wds_len blk 80
            have hbk : hN bb (q + 1) = (hN bb q).plus (rnds (wds blk 80) (hN bb q) 80) := by
             rw [hN, ← HBQ.out]
             rfl
            have hso := hN_ok bb q
            obtain ⟨W, hW⟩ : ∃ W, W = wds blk 80 := ⟨_, rfl⟩
            obtain ⟨s, hsq⟩ : ∃ s, s = hN bb q := ⟨_, rfl⟩
            rw [← hW] at hwl hwn hbk hor
            rw [← hsq] at hbk hso hE
            have HN := Lib.hid hwn
            have HWL := Lib.hid hwl
            have HBK := Lib.hid hbk
            have HSQ := Lib.hid hsq
            obtain ⟨g6, c6', hv6, _, hg6l⟩ := hor.form (by omega)
            injection hv6 with hA6 _ hc6
            subst hA6
            subst hc6
            clear hwl hwn hbk hW hsq HBQ HWQ
            have hq5 := hE.h
            obtain ⟨q0, q1, q2, q3, q4⟩ := rangeS hq5
            have hti : decide ((80 : Int) < 80) = false := rfl
            go_wp2
            go_quiet (fail)
            have hE2 : Env w w.heap.size gh B2 (.slice A4 L c4) L bb s (wr.drewN nq) := hE.drewN nq
            have hor2 : (wr.drewN nq).ownsRow B2 36 1 (.slice (some ⟨g6, 0, none⟩) 80 c6) 80 (c32 W) := hor
            clear hE hor q0 q1 q2 q3 q4 hq5
            generalize wr.drewN nq = w8 at *
            go_wp2
            go_loopw [8, 9, 10, 11, 12, 13] (fun va vb vc vd ve vi wx => ∃ (t : Nat) (r : S5), t ≤ 80 ∧ r.ok ∧ Hid (r = rnds W s t) ∧ va = .int .u32 (r.a : Int) ∧ vb = .int .u32 (r.b : Int) ∧ vc = .int .u32 (r.c : Int) ∧ vd = .int .u32 (r.d : Int) ∧ ve = .int .u32 (r.e : Int) ∧ vi = .int .i64 t ∧
             Env w w.heap.size gh B2 (.slice A4 L c4) L bb s wx ∧ wx.ownsRow B2 36 1 (.slice (some ⟨g6, 0, none⟩) 80 c6) 80 (c32 W)) (fun _ _ _ _ _ i _ => 80 - (intOf i).toNat)
            case atStart => exact ⟨0, s, by omega, hso, Lib.hid rfl, rfl, rfl, rfl, rfl, rfl, rfl, hE2, hor2⟩
            case round =>
             clear hE2 hor2
             obtain ⟨t, r, ht, hro, hr, rfl, rfl, rfl, rfl, rfl, rfl, hE, hor⟩ := hrel
             by_cases hlt : t < 80
             · obtain ⟨ba, bb', bc, bd, be⟩ := hro
               have hcell := (hor.cellAt t (by omega)).trans (c32_at (l := W) (by rw [HN.out]; exact hlt))
               have hxl := all_getD HWL.out t
               have hfl := ff_lt t r.b r.c r.d bb' bc bd
               have hrl := rot_lt 5 r.a (by omega) ba
               have hrl2 := rot_lt 30 r.b (by omega) bb'
               have hnext : rnds W s (t + 1) = ⟨(rot 5 r.a + ff t r.b r.c r.d + r.e + kk t + W.getD t 0) % 4294967296, r.a, rot 30 r.b, r.c, r.d⟩ := by rw [rnds, ← hr.out]; rfl
               obtain ⟨x, hx⟩ : ∃ x, x = W.getD t 0 := ⟨_, rfl⟩
               rw [← hx] at hcell hxl hnext
               have h5 := fun wx => left5 r.a wx ba
               have h30 := fun wx => left30 r.b wx bb'
               obtain ⟨R5, hR5⟩ : ∃ R, R = rot 5 r.a := ⟨_, rfl⟩
               obtain ⟨R30, hR30⟩ : ∃ R, R = rot 30 r.b := ⟨_, rfl⟩
               rw [← hR5] at hrl h5 hnext
               rw [← hR30] at hrl2 h30 hnext
               clear hR5 hR30 hx hr
               have H5 := Lib.hid h5
               have H30 := Lib.hid h30
               clear h5 h30
               have hti : (t : Int) < 80 := by omega
               rcases (show t < 20 ∨ (20 ≤ t ∧ t < 40) ∨ (40 ≤ t ∧ t < 60) ∨ 60 ≤ t by omega) with hc | ⟨hc, hc2⟩ | ⟨hc, hc2⟩ | hc
               · have HF := Lib.hid (by have := ff20 t r.b r.c r.d hc bb' bc bd; rw [show ((4294967295 - r.b : Nat) : Int) = 4294967295 - (r.b : Int) by omega] at this; exact this)
                 have hkt := kk20 hc
                 rw [hkt] at hnext
                 have HNX := Lib.hid hnext
                 clear hnext hkt
                 have ht1 : (t : Int) < 20 := by omega
                 go_wp2
                 rw [HF.out]
                 obtain ⟨F, hF⟩ : ∃ F, F = ff t r.b r.c r.d := ⟨_, rfl⟩
                 rw [← hF] at hfl HNX ⊢
                 clear hF HF
                 go_quiet (first | (go_at_call 69; exact Calls.quiet_of_same ((Hid.out H5 _).mono fun _ _ ⟨h, h2⟩ => ⟨h, h2.symm⟩)))
                 have hsum : (((R5 : Int) + F + r.e + 1518500249) % 4294967296 + x) % 4294967296 = (((R5 + F + r.e + 1518500249 + x) % 4294967296 : Nat) : Int) := by omega
                 obtain ⟨X, hX⟩ : ∃ X, X = (R5 + F + r.e + 1518500249 + x) % 4294967296 := ⟨_, rfl⟩
                 rw [← hX] at hsum HNX
                 have hXl : X < 4294967296 := by omega
                 rw [hsum]
                 clear hsum hX
                 have hE9 : Env w w.heap.size gh B2 (.slice A4 L c4) L bb s (wr.drewN nq) := hE.drewN nq
                 have hor9 : (wr.drewN nq).ownsRow B2 36 1 (.slice (some ⟨g6, 0, none⟩) 80 c6) 80 (c32 W) := hor
                 clear hE hor
                 generalize wr.drewN nq = w9 at *
                 go_wp2_with (first
                  | (go_at_call 69; ((with_reducible refine (Hid.out H30 _).mono ?_); rintro e w' ⟨rfl, rfl⟩)))
                 go_roundw
                 case rel => exact ⟨t + 1, ⟨X, r.a, R30, r.c, r.d⟩, by omega, ⟨hXl, ba, hrl2, bc, bd⟩, Lib.hid HNX.out.symm, rfl, rfl, rfl, rfl, rfl, by go_num, hE9, hor9⟩
                 case measure => simp [intOf]; omega
               · have HF := Lib.hid (ff40 t r.b r.c r.d (by omega) bb' bc bd)
                 have hkt := kk40 hc hc2
                 rw [hkt] at hnext
                 have HNX := Lib.hid hnext
                 clear hnext hkt
                 have ht1 : decide ((t : Int) < 20) = false := by simp; omega
                 have ht2 : (t : Int) < 40 := by omega
                 go_wp2
                 rw [HF.out]
                 obtain ⟨F, hF⟩ : ∃ F, F = ff t r.b r.c r.d := ⟨_, rfl⟩
                 rw [← hF] at hfl HNX ⊢
                 clear hF HF
                 go_quiet (first | (go_at_call 69; exact Calls.quiet_of_same ((Hid.out H5 _).mono fun _ _ ⟨h, h2⟩ => ⟨h, h2.symm⟩)))
                 have hsum : (((R5 : Int) + F + r.e + 1859775393) % 4294967296 + x) % 4294967296 = (((R5 + F + r.e + 1859775393 + x) % 4294967296 : Nat) : Int) := by omega
                 obtain ⟨X, hX⟩ : ∃ X, X = (R5 + F + r.e + 1859775393 + x) % 4294967296 := ⟨_, rfl⟩
                 rw [← hX] at hsum HNX
                 have hXl : X < 4294967296 := by omega
                 rw [hsum]
                 clear hsum hX
                 have hE9 : Env w w.heap.size gh B2 (.slice A4 L c4) L bb s (wr.drewN nq) := hE.drewN nq
                 have hor9 : (wr.drewN nq).ownsRow B2 36 1 (.slice (some ⟨g6, 0, none⟩) 80 c6) 80 (c32 W) := hor
                 clear hE hor
                 generalize wr.drewN nq = w9 at *
                 go_wp2_with (first
                  | (go_at_call 69; ((with_reducible refine (Hid.out H30 _).mono ?_); rintro e w' ⟨rfl, rfl⟩)))
                 go_roundw
                 case rel => exact ⟨t + 1, ⟨X, r.a, R30, r.c, r.d⟩, by omega, ⟨hXl, ba, hrl2, bc, bd⟩, Lib.hid HNX.out.symm, rfl, rfl, rfl, rfl, rfl, by go_num, hE9, hor9⟩
                 case measure => simp [intOf]; omega
               · have HF := Lib.hid (ff60 t r.b r.c r.d (by omega) bb' bc bd)
                 have hkt := kk60 hc hc2
                 rw [hkt] at hnext
                 have HNX := Lib.hid hnext
                 clear hnext hkt
                 have ht1 : decide ((t : Int) < 20) = false := by simp; omega
                 have ht2 : decide ((t : Int) < 40) = false := by simp; omega
                 have ht3 : (t : Int) < 60 := by omega
                 go_wp2
                 rw [HF.out]
                 obtain ⟨F, hF⟩ : ∃ F, F = ff t r.b r.c r.d := ⟨_, rfl⟩
                 rw [← hF] at hfl HNX ⊢
                 clear hF HF
                 go_quiet (first | (go_at_call 69; exact Calls.quiet_of_same ((Hid.out H5 _).mono fun _ _ ⟨h, h2⟩ => ⟨h, h2.symm⟩)))
                 have hsum : (((R5 : Int) + F + r.e + 2400959708) % 4294967296 + x) % 4294967296 = (((R5 + F + r.e + 2400959708 + x) % 4294967296 : Nat) : Int) := by omega
                 obtain ⟨X, hX⟩ : ∃ X, X = (R5 + F + r.e + 2400959708 + x) % 4294967296 := ⟨_, rfl⟩
                 rw [← hX] at hsum HNX
                 have hXl : X < 4294967296 := by omega
                 rw [hsum]
                 clear hsum hX
                 have hE9 : Env w w.heap.size gh B2 (.slice A4 L c4) L bb s (wr.drewN nq) := hE.drewN nq
                 have hor9 : (wr.drewN nq).ownsRow B2 36 1 (.slice (some ⟨g6, 0, none⟩) 80 c6) 80 (c32 W) := hor
                 clear hE hor
                 generalize wr.drewN nq = w9 at *
                 go_wp2_with (first
                  | (go_at_call 69; ((with_reducible refine (Hid.out H30 _).mono ?_); rintro e w' ⟨rfl, rfl⟩)))
                 go_roundw
                 case rel => exact ⟨t + 1, ⟨X, r.a, R30, r.c, r.d⟩, by omega, ⟨hXl, ba, hrl2, bc, bd⟩, Lib.hid HNX.out.symm, rfl, rfl, rfl, rfl, rfl, by go_num, hE9, hor9⟩
                 case measure => simp [intOf]; omega
               · have HF := Lib.hid (ff40 t r.b r.c r.d (by omega) bb' bc bd)
                 have hkt := kk80 hc
                 rw [hkt] at hnext
                 have HNX := Lib.hid hnext
                 clear hnext hkt
                 have ht1 : decide ((t : Int) < 20) = false := by simp; omega
                 have ht2 : decide ((t : Int) < 40) = false := by simp; omega
                 have ht3 : decide ((t : Int) < 60) = false := by simp; omega
                 go_wp2
                 rw [HF.out]
                 obtain ⟨F, hF⟩ : ∃ F, F = ff t r.b r.c r.d := ⟨_, rfl⟩
                 rw [← hF] at hfl HNX ⊢
                 clear hF HF
                 go_quiet (first | (go_at_call 69; exact Calls.quiet_of_same ((Hid.out H5 _).mono fun _ _ ⟨h, h2⟩ => ⟨h, h2.symm⟩)))
                 have hsum : (((R5 : Int) + F + r.e + 3395469782) % 4294967296 + x) % 4294967296 = (((R5 + F + r.e + 3395469782 + x) % 4294967296 : Nat) : Int) := by omega
                 obtain ⟨X, hX⟩ : ∃ X, X = (R5 + F + r.e + 3395469782 + x) % 4294967296 := ⟨_, rfl⟩
                 rw [← hX] at hsum HNX
                 have hXl : X < 4294967296 := by omega
                 rw [hsum]
                 clear hsum hX
                 have hE9 : Env w w.heap.size gh B2 (.slice A4 L c4) L bb s (wr.drewN nq) := hE.drewN nq
                 have hor9 : (wr.drewN nq).ownsRow B2 36 1 (.slice (some ⟨g6, 0, none⟩) 80 c6) 80 (c32 W) := hor
                 clear hE hor
                 generalize wr.drewN nq = w9 at *
                 go_wp2_with (first
                  | (go_at_call 69; ((with_reducible refine (Hid.out H30 _).mono ?_); rintro e w' ⟨rfl, rfl⟩)))
                 go_roundw
                 case rel => exact ⟨t + 1, ⟨X, r.a, R30, r.c, r.d⟩, by omega, ⟨hXl, ba, hrl2, bc, bd⟩, Lib.hid HNX.out.symm, rfl, rfl, rfl, rfl, rfl, by go_num, hE9, hor9⟩
                 case measure => simp [intOf]; omega
             · obtain rfl : t = 80 := by omega
               have hh := hE.h
               obtain ⟨q0, q1, q2, q3, q4⟩ := rangeS hh
               have hpl : s.plus r = hN bb (q + 1) := by rw [HBK.out, ← hr.out]
               have hnx := hE.next (r := r)
               rw [hpl] at hnx
               have f0 := hh.frozen 0
               have f1 := hh.frozen 1
               have f2 := hh.frozen 2
               have f3 := hh.frozen 3
               have f4 := hh.frozen 4
               have hq' : Hid (at_ + 64 = 64 * (q + 1)) := Lib.hid (by have := hq.out; omega)
               clear hpl hE hor hr HBK HSQ hh
               go_wp2
               go_roundw
               case rel => exact ⟨q + 1, at_ + 64, B2, hq', by omega, by go_num, hnx⟩
               case measure => simp [intOf]; omega
     · have hqe : q = bb.length / 64 := by
        have h1 := hq.out
        have h2 := HL.out
        omega
       have hso := hN_ok bb q
       have hS : toldN (hN bb q) 20 = shaSum bs := by rw [HSUM.out, hqe]
       obtain ⟨s, hsq⟩ : ∃ s, s = hN bb q := ⟨_, rfl⟩
       rw [← hsq] at hso hS henv
       have HSS := Lib.hid hS
       clear hsq hqe hS
       have hoq : decide ((at_ : Int) < (L : Int)) = false := by simp; omega
       have hgo : w.heap.size < wr.heap.size := henv.res.lt
       have hEh := henv.h
       have hEr := henv.res
       have hEb := henv.below
       have hnr := henv.nrh
       have hgl := hEh.lt
       clear henv
       obtain ⟨go, hgoe⟩ : ∃ go, go = wr.heap.size := ⟨_, rfl⟩
       have hw9 : Blk (wr.alloc (.cells #[.int .u8 0, .int .u8 0, .int .u8 0, .int .u8 0, .int .u8 0, .int .u8 0, .int .u8 0, .int .u8 0, .int .u8 0, .int .u8 0, .int .u8 0, .int .u8 0, .int .u8 0, .int .u8 0, .int .u8 0, .int .u8 0, .int .u8 0, .int .u8 0, .int .u8 0, .int .u8 0] 40)) go 40 (toldN s 0 ++ List.replicate (20 - 0) 0) := Blk.new_at _ _ _ _ _ hgoe.symm rfl
       have hEh9 := hEh.alloc (.cells #[.int .u8 0, .int .u8 0, .int .u8 0, .int .u8 0, .int .u8 0, .int .u8 0, .int .u8 0, .int .u8 0, .int .u8 0, .int .u8 0, .int .u8 0, .int .u8 0, .int .u8 0, .int .u8 0, .int .u8 0, .int .u8 0, .int .u8 0, .int .u8 0, .int .u8 0, .int .u8 0] 40)
       have hEr9 := hEr.alloc (.cells #[.int .u8 0, .int .u8 0, .int .u8 0, .int .u8 0, .int .u8 0, .int .u8 0, .int .u8 0, .int .u8 0, .int .u8 0, .int .u8 0, .int .u8 0, .int .u8 0, .int .u8 0, .int .u8 0, .int .u8 0, .int .u8 0, .int .u8 0, .int .u8 0, .int .u8 0, .int .u8 0] 40)
       have hEb9 := hEb.alloc hEb.size (.cells #[.int .u8 0, .int .u8 0, .int .u8 0, .int .u8 0, .int .u8 0, .int .u8 0, .int .u8 0, .int .u8 0, .int .u8 0, .int .u8 0, .int .u8 0, .int .u8 0, .int .u8 0, .int .u8 0, .int .u8 0, .int .u8 0, .int .u8 0, .int .u8 0, .int .u8 0, .int .u8 0] 40)
       go_wp2
       rw [← hgoe] at hgo hgl ⊢
       clear hgoe hEh hEr hEb
       generalize wr.alloc (.cells #[.int .u8 0, .int .u8 0, .int .u8 0, .int .u8 0, .int .u8 0, .int .u8 0, .int .u8 0, .int .u8 0, .int .u8 0, .int .u8 0, .int .u8 0, .int .u8 0, .int .u8 0, .int .u8 0, .int .u8 0, .int .u8 0, .int .u8 0, .int .u8 0, .int .u8 0, .int .u8 0] 40) = w9 at *
       go_loopw [18] (fun i wx => ∃ k : Nat, k ≤ 20 ∧ i = .int .i64 k ∧ BlkV wx gh 36 (c32 s.l) ∧ BlkV wx w.heap.size 40 (cells (List.replicate 20 0)) ∧ Blk wx go 40 (toldN s k ++ List.replicate (20 - k) 0) ∧ Below w.heap.size w wx) (fun i _ => 20 - (intOf i).toNat)
       case atStart => exact ⟨0, by omega, rfl, hEh9, hEr9, hw9, hEb9⟩
       case round =>
        clear hEh9 hEr9 hw9 hEb9
        obtain ⟨k, hk, rfl, h1, h2, h3, hb⟩ := hrel
        by_cases hlt : k < 20
        · have hcell := S5.cell_at h1 (k / 4) (by omega)
          have hcell3 := h3.cell (j := k) (by rw [List.length_append, toldN_len, List.length_replicate]; omega)
          have hfr := h3.frozen k
          have hx := all_getD (S5.l_lt hso) (k / 4)
          obtain ⟨x, hxx⟩ : ∃ x, x = s.l.getD (k / 4) 0 := ⟨_, rfl⟩
          rw [← hxx] at hcell hx
          obtain ⟨y, hy⟩ : ∃ y : Value, y = (.int .u8 (((toldN s k ++ List.replicate (20 - k) 0).getD k 0).toNat : Int)) := ⟨_, rfl⟩
          rw [← hy] at hcell3
          clear hy
          have HX := Lib.hid hxx
          clear hxx
          have e1 : Value.int IntKind.u8 ((x : Int) / 2 ^ (24 - 8 * (k % 4)) % 256) = .int .u8 ((toldB s k).toNat : Int) := by
           unfold toldB
           rw [u8_of, ← HX.out]
           simp
          have hs3 := h3.set_ k (toldB s k)
          rw [told_step s k hlt, ← e1] at hs3
          have hs1 := h1.far (p := ⟨go, k, none⟩) (by simp; omega) (Value.int IntKind.u8 ((x : Int) / 2 ^ (24 - 8 * (k % 4)) % 256))
          have hs2 := h2.far (p := ⟨go, k, none⟩) (by simp; omega) (Value.int IntKind.u8 ((x : Int) / 2 ^ (24 - 8 * (k % 4)) % 256))
          have hbs := hb.setCell (p := ⟨go, k, none⟩) (by simp; omega) (Value.int IntKind.u8 ((x : Int) / 2 ^ (24 - 8 * (k % 4)) % 256))
          clear e1
          go_wp2
          go_roundw
          case rel => exact ⟨k + 1, by omega, by go_num, hs1, hs2, hs3, hbs⟩
          case measure => simp [intOf]; omega
        · obtain rfl : k = 20 := by omega
          have h3' : Blk wr go 40 (toldN s 20) := by simpa using h3
          clear h3
          go_wp2_with (first
           | (with_reducible refine wpList_ld rfl 40 (.tmp 17) rfl go 0 rfl (cells (toldN s 20)) (h3'.v.range 0 _ (by simp)) (row20 (by rw [length_cells, toldN_len])) ?_)
           | (with_reducible refine wpList_st rfl 40 (.tmp 2) (.tmp 209) rfl w.heap.size 0 (cells (toldN s 20)) rfl rfl 40 _ h2 (by simp [length_cells, toldN_len]) (row20 (by rw [length_cells, toldN_len])) (cells_one _) ?_; intro wz hBz hoz))
          rw [splice_all _ _ (by simp [length_cells, toldN_len])] at hBz
          rw [HSS.out] at hBz
          exact ret_row (by rfl) (by rfl) hBz (row20 (by rw [length_cells, shaSum_len])) (by rfl) ⟨rfl, hb.trans (hoz.below (Nat.le_refl _))⟩
end Go.Proofs.YtheefckohnaceaaGreatDoor
