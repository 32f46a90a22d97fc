/- Several texts in one: plain words and walks. No statement is proved here. -/
import Derived.Test.YtheefckohnaceaaGreatDoorZReg
import Derived.Test.YtheefckohnaceaaGreatDoorZM9
import Derived.Test.YtheefckohnaceaaGreatDoorZM7
import Derived.Deep.RegionHeld3
import Derived.BigQuiet
namespace Go.Proofs.YtheefckohnaceaaGreatDoor
open List renaming getElem_toArray → xgT, getElem_cons_succ → xgS, getElem_cons_zero → xgZ, setIfInBounds_toArray → xsT, set_cons_succ → xsS, set_cons_zero → xsZ
open Go.RowKit
set_option linter.unusedVariables false

theorem own_below {w w' : World} {base n : Nat} {e : TypeId} {v : Value} {xs : List Value} (h : w.ownsRow base e 1 v n xs) (hb : Below w.heap.size w w') : w'.ownsRow base e 1 v n xs :=
 h.kept (grown_of_below hb none) (by cases hv : v.ownBlock <;> simp)
theorem info_s8 : (Tryz.prog.info? 32).map (fun i => (i.zero, i.size, i.bytes)) = some (some (.slice none 0 0), 1, 24) := by kernel_rfl

structure NW (w0 : World) (key : List UInt8) (p gB i : Nat) (vW : Value) (vs : List Value) (wr : World) : Prop where
 hp : BlkV wr p 171 [.slice (some ⟨gB, 0, none⟩) 256 256, vW]
 hB : Blk wr gB 5 boxT
 hk : Blk wr w0.heap.size 22 key
 own : wr.ownsRow (p + 1) 32 1 vW i vs
 rows : ∀ j, j < i → ∃ b o c, vs[j]? = some (.slice (some ⟨b, o, none⟩) 4 c) ∧ p < b ∧ b < wr.heap.size ∧ vW.ownBlock ≠ some b ∧ ∀ m, m < 4 → wr.cell? ⟨b, o + m, none⟩ = some (.int .u8 (((wd key j).getD m 0).toNat : Int))
 lB : gB < p
 lk : w0.heap.size < p
 b : Below w0.heap.size w0 wr
section
variable {w0 : World} {key : List UInt8} {p gB i : Nat} {vW : Value} {vs : List Value} {wr w' : World}
theorem NW.below (h : NW w0 key p gB i vW vs wr) (hb : Below wr.heap.size wr w') : NW w0 key p gB i vW vs w' :=
 ⟨h.hp.below hb h.hp.lt, h.hB.below hb h.hB.lt, h.hk.below hb h.hk.lt, own_below h.own hb, fun j hj => by
  obtain ⟨b, o, c, h1, h2, h3, h4, h5⟩ := h.rows j hj
  exact ⟨b, o, c, h1, h2, Nat.lt_of_lt_of_le h3 hb.size, h4, fun m hm => (hb.cell (p := ⟨b, o + m, none⟩) h3).trans (h5 m hm)⟩, h.lB, h.lk, h.b.trans (hb.mono h.b.size)⟩
theorem NW.alloc (h : NW w0 key p gB i vW vs wr) (o : Obj) : NW w0 key p gB i vW vs (wr.alloc o) := h.below ((Below.refl _ _).alloc (Nat.le_refl _) _)
theorem NW.drew (h : NW w0 key p gB i vW vs wr) : NW w0 key p gB i vW vs wr.drew := h.below ((Below.refl _ _).drew)
theorem NW.push (h : NW w0 key p gB i vW vs wr) {b o c : Nat} (hpb : p < b) (hbl : b < wr.heap.size) (hne : vW.ownBlock ≠ some b) (hc : ∀ m, m < 4 → wr.cell? ⟨b, o + m, none⟩ = some (.int .u8 (((wd key i).getD m 0).toNat : Int)))
 {v' : Value} (hown : w'.ownsRow (p + 1) 32 1 v' (i + 1) (vs ++ [.slice (some ⟨b, o, none⟩) 4 c])) (hg : wr.grownBy w' vW.ownBlock) (hat : v'.ownBlock = vW.ownBlock ∨ v'.ownBlock = some wr.heap.size) :
 NW w0 key p gB (i + 1) v' (vs ++ [.slice (some ⟨b, o, none⟩) 4 c]) (w'.setCell ⟨p, 1, none⟩ v') := by
 have hvp : ∀ q, vW.ownBlock = some q → p < q := fun q hq => (h.own.lt q hq).1
 have hv'p : ∀ q, v'.ownBlock = some q → p < q := fun q hq => (hown.lt q hq).1
 have ne : ∀ q, q ≤ p → some q ≠ vW.ownBlock := fun q hq e => by have := hvp q e.symm; omega
 have hlen : vs.length = i := by have := h.own.1; omega
 have cellk : ∀ (b o : Nat), b < wr.heap.size → p < b → vW.ownBlock ≠ some b → (w'.setCell ⟨p, 1, none⟩ v').cell? ⟨b, o, none⟩ = wr.cell? ⟨b, o, none⟩ := fun b o h1 h2 h3 => by
  rw [World.cell?_setCell_other _ _ _ _ (fun e => by injection e with e1 _; omega)]
  exact World.cell?_of_block (w := wr) (a := ⟨b, o, none⟩) (hg.block b h1 (Ne.symm h3))
 have hvb : ∀ q, q < wr.heap.size → p < q → vW.ownBlock ≠ some q → v'.ownBlock ≠ some q := fun q h1 h2 h3 e => by
  rcases hat with e2 | e2
  · exact h3 (e2 ▸ e)
  · rw [e2] at e; injection e with e; omega
 refine ⟨?_, ?_, ?_, ?_, ?_, h.lB, h.lk, ?_⟩
 · have := (h.hp.grown hg (ne p (Nat.le_refl _))).set_ 1 v'
   exact this
 · exact (h.hB.grown hg (ne gB (Nat.le_of_lt h.lB))).far (by have := h.lB; simp; omega) _
 · exact (h.hk.grown hg (ne _ (Nat.le_of_lt h.lk))).far (by have := h.lk; simp; omega) _
 · exact hown.kept (Only.set w' p 1 v').grown (by
    cases hv : v'.ownBlock with
    | none => exact .inl rfl
    | some q => exact .inr fun e => by injection e with e; have := hv'p q hv; omega)
 · intro j hj
   rcases Nat.lt_or_ge j i with hlt | hge
   · obtain ⟨b2, o2, c2, h1, h2, h3, h4, h5⟩ := h.rows j hlt
     refine ⟨b2, o2, c2, by rw [List.getElem?_append_left (by omega)]; exact h1, h2, ?_, hvb b2 h3 h2 h4, fun m hm => (cellk b2 (o2 + m) h3 h2 h4).trans (h5 m hm)⟩
     exact Nat.lt_of_lt_of_le h3 (by simpa [World.setCell] using hg.size)
   · obtain rfl : j = i := by omega
     refine ⟨b, o, c, by rw [List.getElem?_append_right (by omega), hlen, Nat.sub_self]; rfl, hpb, ?_, hvb b hbl hpb hne, fun m hm => (cellk b (o + m) hbl hpb hne).trans (hc m hm)⟩
     exact Nat.lt_of_lt_of_le hbl (by simpa [World.setCell] using hg.size)
 · have hb1 : Below w0.heap.size w0 w' := h.b.grown hg h.b.size (fun q hq => by have := hvp q hq; have := h.lk; omega)
   exact hb1.setCell (by have := h.lk; simp; omega) _
end

theorem slot_form {w : World} {base n : Nat} {e : TypeId} {v : Value} {xs : List Value} (h : w.ownsRow base e 1 v n xs) : ∃ A c, v = .slice A n c := own_form h
theorem NW.start (w0 w1 : World) (key : List UInt8) (gB : Nat) (hb : Below w0.heap.size w0 w1) (hk : Blk w1 w0.heap.size 22 key) (hB : Blk w1 gB 5 boxT) :
 NW w0 key w1.heap.size gB 0 (.slice none 0 0) [] (w1.alloc (.cells #[.slice (some ⟨gB, 0, none⟩) 256 256, .slice none 0 0] 171)) :=
 ⟨BlkV.new _ _ [.slice (some ⟨gB, 0, none⟩) 256 256, .slice none 0 0], hB.alloc _, hk.alloc _, World.ownsRow_nil _ _ _ _, fun j hj => absurd hj (by omega), hB.lt, hk.lt, hb.alloc hb.size _⟩

set_option maxRecDepth 100000 in
set_option maxHeartbeats 4000000 in
theorem rnew_any (key : List UInt8) (w : World) (hk : key.length = 16) :
 Calls Tryz.prog 86 #[.agg (cells key).toArray] w fun e w' => ∃ p gB vs vW, e = .returned (.pointer (some ⟨p, 0, none⟩)) ∧ NW w key p gB 44 vW vs w' := by
 have hb0 : Below w.heap.size w (w.alloc (Obj.cells (cells key).toArray 22)) := (Below.refl _ _).alloc (Nat.le_refl _) _
 have h0 : Blk (w.alloc (Obj.cells (cells key).toArray 22)) w.heap.size 22 key := Blk.new _ _ _
 have HK := Lib.hid hk
 clear hk
 go_enter Tryz.func86, Tryz.ntmps86
 go_wp2_with (first
  | (go_at_call 106; ((with_reducible refine (boxes_any _).mono ?_); rintro e w1 ⟨gB, rfl, hgB, hB1, hb1⟩)))
 have hN0 := NW.start w w1 key gB (hb0.trans (hb1.mono hb0.size)) (h0.below hb1 h0.lt) hB1
 clear hb0 h0 hgB hB1 hb1
 obtain ⟨p, hp⟩ : ∃ p, p = w1.heap.size := ⟨_, rfl⟩
 rw [← hp] at hN0 ⊢
 generalize w1.alloc (.cells #[.slice (some ⟨gB, 0, none⟩) 256 256, .slice none 0 0] 171) = w2 at *
 clear hp
 go_loopw [4, 5] (fun vc vi wr => ∃ (i : Nat) (vW : Value) (vs : List Value), i ≤ 44 ∧ vi = .int .i64 i ∧ vc = .int .u8 ((rcon ((i - 1) / 4)).toNat : Int) ∧ NW w key p gB i vW vs wr) (fun _ i _ => 44 - (intOf i).toNat)
 case atStart => exact ⟨0, .slice none 0 0, [], by omega, rfl, rfl, hN0⟩
 case round =>
  clear hN0
  obtain ⟨i, vW, vs, hi, rfl, rfl, hN⟩ := hrel
  by_cases hlt : i < 44
  · by_cases hlow : i < 4
    · have hkl := wd_low key HK.out i hlow
      obtain ⟨I, hI⟩ : ∃ I, I = 4 * i := ⟨_, rfl⟩
      rw [← hI] at hkl
      obtain ⟨a0, ha0, b0, b1⟩ := u8_ex (key.getD I 0)
      obtain ⟨a1, ha1, b2, b3⟩ := u8_ex (key.getD (I + 1) 0)
      obtain ⟨a2, ha2, b4, b5⟩ := u8_ex (key.getD (I + 2) 0)
      obtain ⟨a3, ha3, b6, b7⟩ := u8_ex (key.getD (I + 3) 0)
      have hwc : (#[.int .u8 a0, .int .u8 a1, .int .u8 a2, .int .u8 a3] : Array Value) = (cells (wd key i)).toArray := by rw [hkl, ha0, ha1, ha2, ha3]; rfl
      have HWC := Lib.hid hwc
      have A0 := Lib.hid ha0.symm
      have A1 := Lib.hid ha1.symm
      have A2 := Lib.hid ha2.symm
      have A3 := Lib.hid ha3.symm
      have e0 : IntKind.i64.wrap (4 * (i : Int)) = (I : Int) := by rw [show 4 * (i : Int) = (I : Int) by omega]; exact IntWalk.i64_in _ (by omega)
      have e1 : IntKind.i64.wrap ((I : Int) + 1) = (I : Int) + 1 := IntWalk.i64_in _ (by omega)
      have e2 : IntKind.i64.wrap ((I : Int) + 2) = (I : Int) + 2 := IntWalk.i64_in _ (by omega)
      have e3 : IntKind.i64.wrap ((I : Int) + 3) = (I : Int) + 3 := IntWalk.i64_in _ (by omega)
      have j0 : (I : Int) < 16 := by omega
      have j1 : (I : Int) + 1 < 16 := by omega
      have j2 : (I : Int) + 2 < 16 := by omega
      have j3 : (I : Int) + 3 < 16 := by omega
      have l1 : 0 ≤ (I : Int) + 1 := by omega
      have l2 : 0 ≤ (I : Int) + 2 := by omega
      have l3 : 0 ≤ (I : Int) + 3 := by omega
      have n1 : ((I : Int) + 1).toNat = I + 1 := by omega
      have n2 : ((I : Int) + 2).toNat = I + 2 := by omega
      have n3 : ((I : Int) + 3).toNat = I + 3 := by omega
      have hI16 : I + 3 < 16 := by omega
      have hd4 : decide ((i : Int) < 4) = true := by simp; omega
      clear hkl hI ha0 ha1 ha2 ha3 hwc
      go_wp2
      clear hd4
      refine wp_region_noPanic ?_
      refine wp_region_held (S := fun wx => Blk wx w.heap.size 22 key) (by kernel_rfl) ?_
      change wpAnyH _ _ _ _ _ _ _ _ (World.drew _)
      have hND := hN.drew
      have hkd := hND.hk
      clear hN
      generalize wr.drew = wq at *
      refine wpAnyH_take (i := 0) (v := ?_) rfl (by kernel_rfl) (by kernel_rfl) (by kernel_rfl) (fun _ _ _ h => h) (Or.inl ⟨by rfl, ?_⟩) hkd ?_
      case refine_2 => (intro wz hz; go_simp; with_reducible rfl)
      simp only [Act.put, xgT, xgZ, xsT, xsS, xsZ]
      refine wpAnyH_take (i := 1) (v := ?_) rfl (by kernel_rfl) (by kernel_rfl) (by kernel_rfl) (fun _ _ _ h => h) (Or.inl ⟨by rfl, ?_⟩) hkd ?_
      case refine_2 => (intro wz hz; go_simp; with_reducible rfl)
      simp only [Act.put, xgT, xgS, xgZ, xsT, xsS, xsZ]
      refine wpAnyH_take (i := 2) (v := ?_) rfl (by kernel_rfl) (by kernel_rfl) (by kernel_rfl) (fun _ _ _ h => h) (Or.inl ⟨by rfl, ?_⟩) hkd ?_
      case refine_2 => (intro wz hz; go_simp; with_reducible rfl)
      simp only [Act.put, xgT, xgS, xgZ, xsT, xsS, xsZ]
      refine wpAnyH_take (i := 3) (v := ?_) rfl (by kernel_rfl) (by kernel_rfl) (by kernel_rfl) (fun _ _ _ h => h) (Or.inl ⟨by rfl, ?_⟩) hkd ?_
      case refine_2 => (intro wz hz; go_simp; with_reducible rfl)
      simp only [Act.put, xgT, xgS, xgZ, xsT, xsS, xsZ]
      refine wpAnyH_take (i := 5) (v := ?_) rfl (by kernel_rfl) (by kernel_rfl) (by kernel_rfl) (fun _ _ _ h => h) (Or.inl ⟨by rfl, ?_⟩) hkd ?_
      case refine_2 => (intro wz hz; go_simp; with_reducible rfl)
      simp only [Act.put, xgT, xgS, xgZ, xsT, xsS, xsZ]
      refine wpAnyH_take (i := 6) (v := ?_) rfl (by kernel_rfl) (by kernel_rfl) (by kernel_rfl) (fun _ _ _ h => h) (Or.inl ⟨by rfl, ?_⟩) hkd ?_
      case refine_2 => (intro wz hz; go_simp; with_reducible rfl)
      simp only [Act.put, xgT, xgS, xgZ, xsT, xsS, xsZ]
      refine wpAnyH_take (i := 7) (v := ?_) rfl (by kernel_rfl) (by kernel_rfl) (by kernel_rfl) (fun _ _ _ h => h) (Or.inl ⟨by rfl, ?_⟩) hkd ?_
      case refine_2 => (intro wz hz; go_simp; with_reducible rfl)
      simp only [Act.put, xgT, xgS, xgZ, xsT, xsS, xsZ]
      refine wpAnyH_take (i := 8) (v := ?_) rfl (by kernel_rfl) (by kernel_rfl) (by kernel_rfl) (fun _ _ _ h => h) (Or.inl ⟨by rfl, ?_⟩) hkd ?_
      case refine_2 => (intro wz hz; have hcz := hz.cell (j := I) (by rw [HK.out]; omega); rw [A0.out] at hcz; go_simp; with_reducible rfl)
      simp only [Act.put, xgT, xgS, xgZ, xsT, xsS, xsZ]
      refine wpAnyH_take (i := 9) (v := ?_) rfl (by kernel_rfl) (by kernel_rfl) (by kernel_rfl) (fun _ _ _ h => h) (Or.inl ⟨by rfl, ?_⟩) hkd ?_
      case refine_2 => (intro wz hz; go_simp; with_reducible rfl)
      simp only [Act.put, xgT, xgS, xgZ, xsT, xsS, xsZ]
      refine wpAnyH_take (i := 10) (v := ?_) rfl (by kernel_rfl) (by kernel_rfl) (by kernel_rfl) (fun _ _ _ h => h) (Or.inl ⟨by rfl, ?_⟩) hkd ?_
      case refine_2 => (intro wz hz; go_simp; with_reducible rfl)
      simp only [Act.put, xgT, xgS, xgZ, xsT, xsS, xsZ]
      refine wpAnyH_take (i := 11) (v := ?_) rfl (by kernel_rfl) (by kernel_rfl) (by kernel_rfl) (fun _ _ _ h => h) (Or.inl ⟨by rfl, ?_⟩) hkd ?_
      case refine_2 => (intro wz hz; go_simp; with_reducible rfl)
      simp only [Act.put, xgT, xgS, xgZ, xsT, xsS, xsZ]
      refine wpAnyH_take (i := 12) (v := ?_) rfl (by kernel_rfl) (by kernel_rfl) (by kernel_rfl) (fun _ _ _ h => h) (Or.inl ⟨by rfl, ?_⟩) hkd ?_
      case refine_2 => (intro wz hz; go_simp; with_reducible rfl)
      simp only [Act.put, xgT, xgS, xgZ, xsT, xsS, xsZ]
      refine wpAnyH_take (i := 13) (v := ?_) rfl (by kernel_rfl) (by kernel_rfl) (by kernel_rfl) (fun _ _ _ h => h) (Or.inl ⟨by rfl, ?_⟩) hkd ?_
      case refine_2 => (intro wz hz; have hcz := hz.cell (j := I + 1) (by rw [HK.out]; omega); rw [A1.out] at hcz; go_simp; with_reducible rfl)
      simp only [Act.put, xgT, xgS, xgZ, xsT, xsS, xsZ]
      refine wpAnyH_take (i := 14) (v := ?_) rfl (by kernel_rfl) (by kernel_rfl) (by kernel_rfl) (fun _ _ _ h => h) (Or.inl ⟨by rfl, ?_⟩) hkd ?_
      case refine_2 => (intro wz hz; go_simp; with_reducible rfl)
      simp only [Act.put, xgT, xgS, xgZ, xsT, xsS, xsZ]
      refine wpAnyH_take (i := 15) (v := ?_) rfl (by kernel_rfl) (by kernel_rfl) (by kernel_rfl) (fun _ _ _ h => h) (Or.inl ⟨by rfl, ?_⟩) hkd ?_
      case refine_2 => (intro wz hz; go_simp; with_reducible rfl)
      simp only [Act.put, xgT, xgS, xgZ, xsT, xsS, xsZ]
      refine wpAnyH_take (i := 16) (v := ?_) rfl (by kernel_rfl) (by kernel_rfl) (by kernel_rfl) (fun _ _ _ h => h) (Or.inl ⟨by rfl, ?_⟩) hkd ?_
      case refine_2 => (intro wz hz; go_simp; with_reducible rfl)
      simp only [Act.put, xgT, xgS, xgZ, xsT, xsS, xsZ]
      refine wpAnyH_take (i := 17) (v := ?_) rfl (by kernel_rfl) (by kernel_rfl) (by kernel_rfl) (fun _ _ _ h => h) (Or.inl ⟨by rfl, ?_⟩) hkd ?_
      case refine_2 => (intro wz hz; go_simp; with_reducible rfl)
      simp only [Act.put, xgT, xgS, xgZ, xsT, xsS, xsZ]
      refine wpAnyH_take (i := 18) (v := ?_) rfl (by kernel_rfl) (by kernel_rfl) (by kernel_rfl) (fun _ _ _ h => h) (Or.inl ⟨by rfl, ?_⟩) hkd ?_
      case refine_2 => (intro wz hz; have hcz := hz.cell (j := I + 2) (by rw [HK.out]; omega); rw [A2.out] at hcz; go_simp; with_reducible rfl)
      simp only [Act.put, xgT, xgS, xgZ, xsT, xsS, xsZ]
      refine wpAnyH_take (i := 19) (v := ?_) rfl (by kernel_rfl) (by kernel_rfl) (by kernel_rfl) (fun _ _ _ h => h) (Or.inl ⟨by rfl, ?_⟩) hkd ?_
      case refine_2 => (intro wz hz; go_simp; with_reducible rfl)
      simp only [Act.put, xgT, xgS, xgZ, xsT, xsS, xsZ]
      refine wpAnyH_take (i := 20) (v := ?_) rfl (by kernel_rfl) (by kernel_rfl) (by kernel_rfl) (fun _ _ _ h => h) (Or.inl ⟨by rfl, ?_⟩) hkd ?_
      case refine_2 => (intro wz hz; go_simp; with_reducible rfl)
      simp only [Act.put, xgT, xgS, xgZ, xsT, xsS, xsZ]
      refine wpAnyH_take (i := 21) (v := ?_) rfl (by kernel_rfl) (by kernel_rfl) (by kernel_rfl) (fun _ _ _ h => h) (Or.inl ⟨by rfl, ?_⟩) hkd ?_
      case refine_2 => (intro wz hz; go_simp; with_reducible rfl)
      simp only [Act.put, xgT, xgS, xgZ, xsT, xsS, xsZ]
      refine wpAnyH_take (i := 22) (v := ?_) rfl (by kernel_rfl) (by kernel_rfl) (by kernel_rfl) (fun _ _ _ h => h) (Or.inl ⟨by rfl, ?_⟩) hkd ?_
      case refine_2 => (intro wz hz; go_simp; with_reducible rfl)
      simp only [Act.put, xgT, xgS, xgZ, xsT, xsS, xsZ]
      refine wpAnyH_take (i := 23) (v := ?_) rfl (by kernel_rfl) (by kernel_rfl) (by kernel_rfl) (fun _ _ _ h => h) (Or.inl ⟨by rfl, ?_⟩) hkd ?_
      case refine_2 => (intro wz hz; have hcz := hz.cell (j := I + 3) (by rw [HK.out]; omega); rw [A3.out] at hcz; go_simp; with_reducible rfl)
      simp only [Act.put, xgT, xgS, xgZ, xsT, xsS, xsZ]
      refine anyH_two (i := 4) (j := 24) (by kernel_rfl) rfl rfl rfl rfl (fun H hH => ?_) (fun H hH => ?_)
      · simp only [xgT, xgS, xgZ]
        have hcw := hND.hp.cell 1
        simp only [List.getElem?_cons_succ, List.getElem?_cons_zero] at hcw
        go_simp
        refine hH _ _ hkd ?_
        clear hH H hcw
        refine anyH_one (i := 24) (by kernel_rfl) rfl rfl (fun H hH => ?_)
        simp only [xgT, xgS, xgZ]
        go_simp
        refine hH _ _ (hkd.alloc _) ?_
        clear hH H
        refine anyH_one (i := 25) (by kernel_rfl) rfl rfl (fun H hH => ?_)
        simp only [xgT, xgS, xgZ]
        go_simp
        refine hH _ _ ((hkd.alloc _).alloc _) ?_
        clear hH H
        have hN2 := (hND.alloc (.cells #[.int .u8 a0, .int .u8 a1, .int .u8 a2, .int .u8 a3] 5)).alloc (.cells #[.slice (some ⟨wq.heap.size, 0, none⟩) 4 4] 32)
        obtain ⟨D, hD⟩ : ∃ D, D = wq.heap.size := ⟨_, rfl⟩
        obtain ⟨DD, hDD⟩ : ∃ DD, DD = wq.heap.size + 1 := ⟨_, rfl⟩
        have hone : ((wq.alloc (.cells #[.int .u8 a0, .int .u8 a1, .int .u8 a2, .int .u8 a3] 5)).alloc (.cells #[.slice (some ⟨wq.heap.size, 0, none⟩) 4 4] 32)).cell? ((⟨DD, 0, none⟩ : Addr).add 0) = some (.slice (some ⟨D, 0, none⟩) 4 4) := by
         rw [hDD, hD, add_lit]
         exact (BlkV.new_at _ (wq.heap.size + 1) _ [.slice (some ⟨wq.heap.size, 0, none⟩) 4 4] _ (by simp) rfl).cell 0
        have hDb : Blk ((wq.alloc (.cells #[.int .u8 a0, .int .u8 a1, .int .u8 a2, .int .u8 a3] 5)).alloc (.cells #[.slice (some ⟨wq.heap.size, 0, none⟩) 4 4] 32)) D 5 (wd key i) := by
         rw [hD]
         exact (Blk.new_at _ _ _ (wd key i) _ rfl HWC.out).alloc _
        have hDl := hDb.lt
        have hDp : p < D := by rw [hD]; exact hND.hp.lt
        have hDn : vW.ownBlock ≠ some D := fun e => by have := (hND.own.lt _ e).2; omega
        have hDc : ∀ m, m < 4 → ((wq.alloc (.cells #[.int .u8 a0, .int .u8 a1, .int .u8 a2, .int .u8 a3] 5)).alloc (.cells #[.slice (some ⟨wq.heap.size, 0, none⟩) 4 4] 32)).cell? ⟨D, 0 + m, none⟩ = some (.int .u8 (((wd key i).getD m 0).toNat : Int)) := fun m hm => by
         rw [Nat.zero_add]; exact hDb.cell (by rw [wd_len]; exact hm)
        rw [← hD] at hone hN2 hDl hDc hDD ⊢
        rw [← hDD]
        generalize (wq.alloc (.cells #[.int .u8 a0, .int .u8 a1, .int .u8 a2, .int .u8 a3] 5)).alloc (.cells #[.slice (some ⟨D, 0, none⟩) 4 4] 32) = w2 at *
        clear hDb hD hDD
        refine anyH_one (i := 26) (by kernel_rfl) rfl rfl (fun H hH => ?_)
        simp only [xgT, xgS, xgZ]
        refine wp_app1 _ (.tmp 22) (.tmp 43) rfl Tryz.underlying80 info_s8 rfl (by omega) (p + 1) vW i vs (by rfl) hN2.own ⟨DD, 0, none⟩ 1 (by rfl) (.slice (some ⟨D, 0, none⟩) 4 4) hone rfl (by omega) (by omega) ?_
        intro v3 w3 hown3 hg3 hat3 _
        obtain ⟨A3, c3, rfl⟩ := slot_form hown3
        refine hH _ _ (hN2.hk.grown hg3 (fun e => by have := (hN2.own.lt _ e.symm).1; have := hN2.lk; omega)) ?_
        clear hH H
        have hk3 := hN2.hk.grown hg3 (fun e => by have := (hN2.own.lt _ e.symm).1; have := hN2.lk; omega)
        have hpush := hN2.push (o := 0) hDp hDl hDn hDc hown3 hg3 hat3
        have hp3 := hN2.hp.grown hg3 (fun e => by have := (hN2.own.lt _ e.symm).1; omega)
        have hcp3 := hp3.cell 1
        have hfp3 := hp3.frozen 1
        refine wpAnyH_take (i := 27) (v := ?_) rfl (by kernel_rfl) (by kernel_rfl) (by kernel_rfl) (fun _ _ _ h => h) (Or.inl ⟨by rfl, ?_⟩) hk3 ?_
        case refine_2 => (intro wz hz; go_simp; with_reducible rfl)
        simp only [Act.put, xgT, xgS, xgZ, xsT, xsS, xsZ]
        refine wpAnyH_take (i := 28) (v := ?_) rfl (by kernel_rfl) (by kernel_rfl) (by kernel_rfl) (fun _ _ _ h => h) (Or.inl ⟨by rfl, ?_⟩) hk3 ?_
        case refine_2 => (intro wz hz; go_simp; with_reducible rfl)
        simp only [Act.put, xgT, xgS, xgZ, xsT, xsS, xsZ]
        refine anyH_one (i := 29) (by kernel_rfl) rfl rfl (fun H hH => ?_)
        simp only [xgT, xgS, xgZ]
        simp only [List.getElem?_cons_succ, List.getElem?_cons_zero] at hcp3
        go_simp
        refine hH _ _ hpush.hk ?_
        clear hH H
        refine wpAnyH_done (by kernel_rfl) ?_ _
        refine NoPanic.normal ?_
        clear hcp3 hfp3 hp3 hk3 hown3 hg3 hat3 hN2 hDc
        go_wp2
        go_roundw
        case rel => exact ⟨i + 1, _, _, by omega, by go_num, by rw [show (i + 1 - 1) / 4 = (i - 1) / 4 by omega], hpush⟩
        case measure => simp [intOf]; omega
      · simp only [xgT, xgS, xgZ]
        go_simp
        refine hH _ _ (hkd.alloc _) ?_
        clear hH H
        refine anyH_two (i := 4) (j := 25) (by kernel_rfl) rfl rfl rfl rfl (fun H hH => ?_) (fun H hH => ?_)
        · simp only [xgT, xgS, xgZ]
          have hcw := (hND.alloc (.cells #[.int .u8 a0, .int .u8 a1, .int .u8 a2, .int .u8 a3] 5)).hp.cell 1
          simp only [List.getElem?_cons_succ, List.getElem?_cons_zero] at hcw
          go_simp
          refine hH _ _ (hkd.alloc _) ?_
          clear hH H hcw
          refine anyH_one (i := 25) (by kernel_rfl) rfl rfl (fun H hH => ?_)
          simp only [xgT, xgS, xgZ]
          go_simp
          refine hH _ _ ((hkd.alloc _).alloc _) ?_
          clear hH H
          have hN2 := (hND.alloc (.cells #[.int .u8 a0, .int .u8 a1, .int .u8 a2, .int .u8 a3] 5)).alloc (.cells #[.slice (some ⟨wq.heap.size, 0, none⟩) 4 4] 32)
          obtain ⟨D, hD⟩ : ∃ D, D = wq.heap.size := ⟨_, rfl⟩
          obtain ⟨DD, hDD⟩ : ∃ DD, DD = wq.heap.size + 1 := ⟨_, rfl⟩
          have hone : ((wq.alloc (.cells #[.int .u8 a0, .int .u8 a1, .int .u8 a2, .int .u8 a3] 5)).alloc (.cells #[.slice (some ⟨wq.heap.size, 0, none⟩) 4 4] 32)).cell? ((⟨DD, 0, none⟩ : Addr).add 0) = some (.slice (some ⟨D, 0, none⟩) 4 4) := by
           rw [hDD, hD, add_lit]
           exact (BlkV.new_at _ (wq.heap.size + 1) _ [.slice (some ⟨wq.heap.size, 0, none⟩) 4 4] _ (by simp) rfl).cell 0
          have hDb : Blk ((wq.alloc (.cells #[.int .u8 a0, .int .u8 a1, .int .u8 a2, .int .u8 a3] 5)).alloc (.cells #[.slice (some ⟨wq.heap.size, 0, none⟩) 4 4] 32)) D 5 (wd key i) := by
           rw [hD]
           exact (Blk.new_at _ _ _ (wd key i) _ rfl HWC.out).alloc _
          have hDl := hDb.lt
          have hDp : p < D := by rw [hD]; exact hND.hp.lt
          have hDn : vW.ownBlock ≠ some D := fun e => by have := (hND.own.lt _ e).2; omega
          have hDc : ∀ m, m < 4 → ((wq.alloc (.cells #[.int .u8 a0, .int .u8 a1, .int .u8 a2, .int .u8 a3] 5)).alloc (.cells #[.slice (some ⟨wq.heap.size, 0, none⟩) 4 4] 32)).cell? ⟨D, 0 + m, none⟩ = some (.int .u8 (((wd key i).getD m 0).toNat : Int)) := fun m hm => by
           rw [Nat.zero_add]; exact hDb.cell (by rw [wd_len]; exact hm)
          rw [← hD] at hone hN2 hDl hDc hDD ⊢
          rw [← hDD]
          generalize (wq.alloc (.cells #[.int .u8 a0, .int .u8 a1, .int .u8 a2, .int .u8 a3] 5)).alloc (.cells #[.slice (some ⟨D, 0, none⟩) 4 4] 32) = w2 at *
          clear hDb hD hDD
          refine anyH_one (i := 26) (by kernel_rfl) rfl rfl (fun H hH => ?_)
          simp only [xgT, xgS, xgZ]
          refine wp_app1 _ (.tmp 22) (.tmp 43) rfl Tryz.underlying80 info_s8 rfl (by omega) (p + 1) vW i vs (by rfl) hN2.own ⟨DD, 0, none⟩ 1 (by rfl) (.slice (some ⟨D, 0, none⟩) 4 4) hone rfl (by omega) (by omega) ?_
          intro v3 w3 hown3 hg3 hat3 _
          obtain ⟨A3, c3, rfl⟩ := slot_form hown3
          refine hH _ _ (hN2.hk.grown hg3 (fun e => by have := (hN2.own.lt _ e.symm).1; have := hN2.lk; omega)) ?_
          clear hH H
          have hk3 := hN2.hk.grown hg3 (fun e => by have := (hN2.own.lt _ e.symm).1; have := hN2.lk; omega)
          have hpush := hN2.push (o := 0) hDp hDl hDn hDc hown3 hg3 hat3
          have hp3 := hN2.hp.grown hg3 (fun e => by have := (hN2.own.lt _ e.symm).1; omega)
          have hcp3 := hp3.cell 1
          have hfp3 := hp3.frozen 1
          refine wpAnyH_take (i := 27) (v := ?_) rfl (by kernel_rfl) (by kernel_rfl) (by kernel_rfl) (fun _ _ _ h => h) (Or.inl ⟨by rfl, ?_⟩) hk3 ?_
          case refine_2 => (intro wz hz; go_simp; with_reducible rfl)
          simp only [Act.put, xgT, xgS, xgZ, xsT, xsS, xsZ]
          refine wpAnyH_take (i := 28) (v := ?_) rfl (by kernel_rfl) (by kernel_rfl) (by kernel_rfl) (fun _ _ _ h => h) (Or.inl ⟨by rfl, ?_⟩) hk3 ?_
          case refine_2 => (intro wz hz; go_simp; with_reducible rfl)
          simp only [Act.put, xgT, xgS, xgZ, xsT, xsS, xsZ]
          refine anyH_one (i := 29) (by kernel_rfl) rfl rfl (fun H hH => ?_)
          simp only [xgT, xgS, xgZ]
          simp only [List.getElem?_cons_succ, List.getElem?_cons_zero] at hcp3
          go_simp
          refine hH _ _ hpush.hk ?_
          clear hH H
          refine wpAnyH_done (by kernel_rfl) ?_ _
          refine NoPanic.normal ?_
          clear hcp3 hfp3 hp3 hk3 hown3 hg3 hat3 hN2 hDc
          go_wp2
          go_roundw
          case rel => exact ⟨i + 1, _, _, by omega, by go_num, by rw [show (i + 1 - 1) / 4 = (i - 1) / 4 by omega], hpush⟩
          case measure => simp [intOf]; omega
        · simp only [xgT, xgS, xgZ]
          go_simp
          refine hH _ _ ((hkd.alloc _).alloc _) ?_
          clear hH H
          refine anyH_one (i := 4) (by kernel_rfl) rfl rfl (fun H hH => ?_)
          simp only [xgT, xgS, xgZ]
          have hcw := ((hND.alloc (.cells #[.int .u8 a0, .int .u8 a1, .int .u8 a2, .int .u8 a3] 5)).alloc (.cells #[.slice (some ⟨wq.heap.size, 0, none⟩) 4 4] 32)).hp.cell 1
          simp only [List.getElem?_cons_succ, List.getElem?_cons_zero] at hcw
          go_simp
          refine hH _ _ ((hkd.alloc _).alloc _) ?_
          clear hH H hcw
          have hN2 := (hND.alloc (.cells #[.int .u8 a0, .int .u8 a1, .int .u8 a2, .int .u8 a3] 5)).alloc (.cells #[.slice (some ⟨wq.heap.size, 0, none⟩) 4 4] 32)
          obtain ⟨D, hD⟩ : ∃ D, D = wq.heap.size := ⟨_, rfl⟩
          obtain ⟨DD, hDD⟩ : ∃ DD, DD = wq.heap.size + 1 := ⟨_, rfl⟩
          have hone : ((wq.alloc (.cells #[.int .u8 a0, .int .u8 a1, .int .u8 a2, .int .u8 a3] 5)).alloc (.cells #[.slice (some ⟨wq.heap.size, 0, none⟩) 4 4] 32)).cell? ((⟨DD, 0, none⟩ : Addr).add 0) = some (.slice (some ⟨D, 0, none⟩) 4 4) := by
           rw [hDD, hD, add_lit]
           exact (BlkV.new_at _ (wq.heap.size + 1) _ [.slice (some ⟨wq.heap.size, 0, none⟩) 4 4] _ (by simp) rfl).cell 0
          have hDb : Blk ((wq.alloc (.cells #[.int .u8 a0, .int .u8 a1, .int .u8 a2, .int .u8 a3] 5)).alloc (.cells #[.slice (some ⟨wq.heap.size, 0, none⟩) 4 4] 32)) D 5 (wd key i) := by
           rw [hD]
           exact (Blk.new_at _ _ _ (wd key i) _ rfl HWC.out).alloc _
          have hDl := hDb.lt
          have hDp : p < D := by rw [hD]; exact hND.hp.lt
          have hDn : vW.ownBlock ≠ some D := fun e => by have := (hND.own.lt _ e).2; omega
          have hDc : ∀ m, m < 4 → ((wq.alloc (.cells #[.int .u8 a0, .int .u8 a1, .int .u8 a2, .int .u8 a3] 5)).alloc (.cells #[.slice (some ⟨wq.heap.size, 0, none⟩) 4 4] 32)).cell? ⟨D, 0 + m, none⟩ = some (.int .u8 (((wd key i).getD m 0).toNat : Int)) := fun m hm => by
           rw [Nat.zero_add]; exact hDb.cell (by rw [wd_len]; exact hm)
          rw [← hD] at hone hN2 hDl hDc hDD ⊢
          rw [← hDD]
          generalize (wq.alloc (.cells #[.int .u8 a0, .int .u8 a1, .int .u8 a2, .int .u8 a3] 5)).alloc (.cells #[.slice (some ⟨D, 0, none⟩) 4 4] 32) = w2 at *
          clear hDb hD hDD
          refine anyH_one (i := 26) (by kernel_rfl) rfl rfl (fun H hH => ?_)
          simp only [xgT, xgS, xgZ]
          refine wp_app1 _ (.tmp 22) (.tmp 43) rfl Tryz.underlying80 info_s8 rfl (by omega) (p + 1) vW i vs (by rfl) hN2.own ⟨DD, 0, none⟩ 1 (by rfl) (.slice (some ⟨D, 0, none⟩) 4 4) hone rfl (by omega) (by omega) ?_
          intro v3 w3 hown3 hg3 hat3 _
          obtain ⟨A3, c3, rfl⟩ := slot_form hown3
          refine hH _ _ (hN2.hk.grown hg3 (fun e => by have := (hN2.own.lt _ e.symm).1; have := hN2.lk; omega)) ?_
          clear hH H
          have hk3 := hN2.hk.grown hg3 (fun e => by have := (hN2.own.lt _ e.symm).1; have := hN2.lk; omega)
          have hpush := hN2.push (o := 0) hDp hDl hDn hDc hown3 hg3 hat3
          have hp3 := hN2.hp.grown hg3 (fun e => by have := (hN2.own.lt _ e.symm).1; omega)
          have hcp3 := hp3.cell 1
          have hfp3 := hp3.frozen 1
          refine wpAnyH_take (i := 27) (v := ?_) rfl (by kernel_rfl) (by kernel_rfl) (by kernel_rfl) (fun _ _ _ h => h) (Or.inl ⟨by rfl, ?_⟩) hk3 ?_
          case refine_2 => (intro wz hz; go_simp; with_reducible rfl)
          simp only [Act.put, xgT, xgS, xgZ, xsT, xsS, xsZ]
          refine wpAnyH_take (i := 28) (v := ?_) rfl (by kernel_rfl) (by kernel_rfl) (by kernel_rfl) (fun _ _ _ h => h) (Or.inl ⟨by rfl, ?_⟩) hk3 ?_
          case refine_2 => (intro wz hz; go_simp; with_reducible rfl)
          simp only [Act.put, xgT, xgS, xgZ, xsT, xsS, xsZ]
          refine anyH_one (i := 29) (by kernel_rfl) rfl rfl (fun H hH => ?_)
          simp only [xgT, xgS, xgZ]
          simp only [List.getElem?_cons_succ, List.getElem?_cons_zero] at hcp3
          go_simp
          refine hH _ _ hpush.hk ?_
          clear hH H
          refine wpAnyH_done (by kernel_rfl) ?_ _
          refine NoPanic.normal ?_
          clear hcp3 hfp3 hp3 hk3 hown3 hg3 hat3 hN2 hDc
          go_wp2
          go_roundw
          case rel => exact ⟨i + 1, _, _, by omega, by go_num, by rw [show (i + 1 - 1) / 4 = (i - 1) / 4 by omega], hpush⟩
          case measure => simp [intOf]; omega
    · have hd4 : decide ((i : Int) < 4) = false := by simp; omega
      have hd44 : decide ((i : Int) < 44) = true := by simp; omega
      obtain ⟨n, hn⟩ : ∃ n, n = i - 4 := ⟨_, rfl⟩
      have hni : i = n + 4 := by omega
      obtain ⟨gW, cW, hvW, hgWp, hgWl⟩ := hN.own.form (by omega)
      subst hvW
      obtain ⟨b1, o1, c1, hv1, hpb1, hbl1, hnb1, hcb1⟩ := hN.rows (i - 1) (by omega)
      have hcp1 := hN.hp.cell 1
      simp only [List.getElem?_cons_succ, List.getElem?_cons_zero] at hcp1
      have hcw1 := (hN.own.cellAt (i - 1) (by omega)).trans hv1
      obtain ⟨m1, hm1⟩ : ∃ m1, m1 = i - 1 := ⟨_, rfl⟩
      rw [← hm1] at hcw1 hcb1
      have q1 : (i : Int) - 1 = (m1 : Int) := by omega
      have q2 : (m1 : Int) < (i : Int) := by omega
      have q3 : m1 < i := by omega
      have HNI := Lib.hid hni
      have HM1 := Lib.hid hm1
      have HN4 : Hid (n < 40) := Lib.hid (by omega)
      by_cases hm : n % 4 = 0
      · have hmod : (i : Int) % 4 = 0 := by omega
        have HM := Lib.hid hm
        have hni0 := hni
        clear hni hn hm1 hm
        obtain ⟨rc, hrc⟩ : ∃ rc, rc = rcon ((i - 1) / 4) := ⟨_, rfl⟩
        rw [← hrc]
        have hrcn : rc = rcon (n / 4) := by rw [hrc]; congr 1; have := HM.out; omega
        have HRC : Hid (((dbl rc).toNat : Int) = ((rcon ((i + 1 - 1) / 4)).toNat : Int)) := Lib.hid (by rw [hrcn, show (i + 1 - 1) / 4 = n / 4 + 1 by have := HM.out; omega, rcon])
        have htw : twW key n = [sb ((wd key m1).getD 1 0) ^^^ rc, sb ((wd key m1).getD 2 0), sb ((wd key m1).getD 3 0), sb ((wd key m1).getD 0 0)] := by
         unfold twW
         rw [if_pos HM.out, hrcn, HM1.out, hni0, show n + 4 - 1 = n + 3 by omega]
        obtain ⟨T, hT⟩ : ∃ T, T = twW key n := ⟨_, rfl⟩
        have htt : ∀ k, k < 4 → (wd key n).getD k 0 ^^^ T.getD k 0 = (wd key i).getD k 0 := by
         intro k hk
         rw [hT, hni0]
         exact wd_new key HK.out n k HN4.out hk
        have HTT := Lib.hid htt
        have c0 := hcb1 0 (by omega)
        have c1' := hcb1 1 (by omega)
        have c2 := hcb1 2 (by omega)
        have c3 := hcb1 3 (by omega)
        rw [Nat.add_zero] at c0
        obtain ⟨x0, hx0⟩ : ∃ x, x = (wd key m1).getD 0 0 := ⟨_, rfl⟩
        obtain ⟨x1, hx1⟩ : ∃ x, x = (wd key m1).getD 1 0 := ⟨_, rfl⟩
        obtain ⟨x2, hx2⟩ : ∃ x, x = (wd key m1).getD 2 0 := ⟨_, rfl⟩
        obtain ⟨x3, hx3⟩ : ∃ x, x = (wd key m1).getD 3 0 := ⟨_, rfl⟩
        rw [← hx0, ← hx1, ← hx2, ← hx3, ← hT] at htw
        rw [← hx0] at c0
        rw [← hx1] at c1'
        rw [← hx2] at c2
        rw [← hx3] at c3
        have hcp0 := hN.hp.cell 0
        simp only [List.getElem?_cons_zero] at hcp0
        have d0 := hN.hB.cell (j := x0.toNat) (by rw [boxT_len]; exact x0.toNat_lt)
        have d1 := hN.hB.cell (j := x1.toNat) (by rw [boxT_len]; exact x1.toNat_lt)
        have d2 := hN.hB.cell (j := x2.toNat) (by rw [boxT_len]; exact x2.toNat_lt)
        have d3 := hN.hB.cell (j := x3.toNat) (by rw [boxT_len]; exact x3.toNat_lt)
        have hsb : ∀ x : UInt8, boxT.getD x.toNat 0 = sb x := fun _ => rfl
        rw [hsb] at d0 d1 d2 d3
        obtain ⟨v0, hv0, v01, v02⟩ := u8_ex (sb x0)
        obtain ⟨v1, hv1', v11, v12⟩ := u8_ex (sb x1)
        obtain ⟨v2, hv2, v21, v22⟩ := u8_ex (sb x2)
        obtain ⟨v3, hv3, v31, v32⟩ := u8_ex (sb x3)
        obtain ⟨vr, hvr, vr1, vr2⟩ := u8_ex rc
        obtain ⟨vc, hvc, vc1, vc2⟩ := u8_ex (sb x1 ^^^ rc)
        have bx := xr8i hv1' hvr hvc
        rw [← hv0] at d0
        rw [← hv1'] at d1
        rw [← hv2] at d2
        rw [← hv3] at d3
        have hTc : (#[.int .u8 vc, .int .u8 v2, .int .u8 v3, .int .u8 v0] : Array Value) = (cells T).toArray := by rw [htw, hvc, hv2, hv3, hv0]; rfl
        have HTC := Lib.hid hTc
        have hTl : T.length = 4 := by rw [htw]; rfl
        have HTL := Lib.hid hTl
        have hdt := fun wx => rtimes_any rc 2 vr 2 wx hvr rfl
        have h2t : timesN rc.toNat (2 : UInt8).toNat = (dbl rc).toNat := times_two' rc
        simp only [h2t] at hdt
        have HDT := Lib.hid hdt
        rw [← hvr]
        obtain ⟨y0, hy0⟩ : ∃ y, y = x0.toNat := ⟨_, rfl⟩
        obtain ⟨y1, hy1⟩ : ∃ y, y = x1.toNat := ⟨_, rfl⟩
        obtain ⟨y2, hy2⟩ : ∃ y, y = x2.toNat := ⟨_, rfl⟩
        obtain ⟨y3, hy3⟩ : ∃ y, y = x3.toNat := ⟨_, rfl⟩
        have l0 : (y0 : Int) < 256 := by have := x0.toNat_lt; omega
        have l1 : (y1 : Int) < 256 := by have := x1.toNat_lt; omega
        have l2 : (y2 : Int) < 256 := by have := x2.toNat_lt; omega
        have l3 : (y3 : Int) < 256 := by have := x3.toNat_lt; omega
        have g0 : y0 < 256 := by omega
        have g1 : y1 < 256 := by omega
        have g2 : y2 < 256 := by omega
        have g3 : y3 < 256 := by omega
        rw [← hy0] at c0 d0
        rw [← hy1] at c1' d1
        rw [← hy2] at c2 d2
        rw [← hy3] at c3 d3
        clear hx0 hx1 hx2 hx3 hy0 hy1 hy2 hy3 hv0 hv1' hv2 hv3 hvc hvr hsb hTc hTl hdt h2t htw htt hT hrc hrcn hcb1 hv1 hni0
        go_wp2
        clear q1 q2 q3 hcw1 hmod hd4 hd44
        go_still_tail 38, (by kernel_rfl)
        change wpList _ _ _ _ _ wr.drew
        clear c0 c1' c2 c3 d0 d1 d2 d3 hcp0 hcp1 l0 l1 l2 l3 g0 g1 g2 g3 bx
        have hNd := hN.drew
        have hgl := hN.hp.lt
        clear hN
        generalize wr.drew = w4 at *
        go_wp2_with (go_at_call 107; ((with_reducible refine (Hid.out HDT _).mono ?_); rintro e w' ⟨rfl, rfl⟩))
        have hN := hNd.alloc (.cells #[.int .u8 vc, .int .u8 v2, .int .u8 v3, .int .u8 v0] 5)
        have hTb : Blk (w4.alloc (.cells #[.int .u8 vc, .int .u8 v2, .int .u8 v3, .int .u8 v0] 5)) w4.heap.size 5 T := Blk.new_at _ _ _ T _ rfl HTC.out
        obtain ⟨bt, hbte⟩ : ∃ b, b = w4.heap.size := ⟨_, rfl⟩
        rw [← hbte] at hTb ⊢
        clear hbte hNd
        generalize w4.alloc (.cells #[.int .u8 vc, .int .u8 v2, .int .u8 v3, .int .u8 v0] 5) = wq at *
        have hbt : bt < wq.heap.size := hTb.lt
        have hct : ∀ k, k < 4 → wq.cell? ⟨bt, k, none⟩ = some (.int .u8 ((T.getD k 0).toNat : Int)) := fun k hk => by
         exact hTb.cell (by rw [HTL.out]; exact hk)
        clear hTb HDT
        go_loopw [7, 8] (fun vv vk wr => ∃ (k : Nat) (A : Option Addr) (c : Nat), k ≤ 4 ∧ vv = .slice A k c ∧ vk = .int .i64 k ∧ wr.ownsRow wq.heap.size 5 1 (.slice A k c) k (cells ((wd key i).take k)) ∧ Below wq.heap.size wq wr) (fun _ k _ => 4 - (intOf k).toNat)
        case atStart => exact ⟨0, none, 0, by omega, rfl, rfl, World.ownsRow_nil _ _ _ _, Below.refl _ _⟩
        case round =>
         obtain ⟨k, A, c, hk4, rfl, rfl, ho, hb⟩ := hrel
         by_cases hltk : k < 4
         · obtain ⟨bw, ow, cw, hv, hpb, hbl, hnb, hcb⟩ := hN.rows n (by have := HNI.out; omega)
           have hz3 := hcb k hltk
           have hz4 := hct k hltk
           obtain ⟨a, ha, a1, a2⟩ := u8_ex ((wd key n).getD k 0)
           obtain ⟨d, hd, d1, d2⟩ := u8_ex (T.getD k 0)
           obtain ⟨v, hvv, v1, v2⟩ := u8_ex ((wd key i).getD k 0)
           have hxx := xr8i (k := v) ha hd (by rw [HTT.out k hltk]; exact hvv)
           rw [← ha] at hz3
           rw [← hd] at hz4
           have HV := Lib.hid hvv
           have htk : (wd key i).take (k + 1) = (wd key i).take k ++ [(wd key i).getD k 0] := by
            rw [List.take_succ_eq_append_getElem (by rw [wd_len]; exact hltk)]
            simp [List.getD_eq_getElem?_getD, wd_len, hltk]
           have HTK := Lib.hid htk
           have hni := HNI.out
           have e1 : IntKind.i64.wrap ((i : Int) - 4) = (n : Int) := by rw [show (i : Int) - 4 = (n : Int) by omega]; exact IntWalk.i64_in _ (by omega)
           have f1 : (n : Int) < (i : Int) := by omega
           have f2 : n < i := by omega
           have f3 : (k : Int) < 4 := by omega
           have hltw := hb.size
           clear hni
           have hSk : ∀ wx, Below wq.heap.size wq wx → wx.cell? ⟨p, 1, none⟩ = some (.slice (some ⟨gW, 0, none⟩) i cW) ∧ wx.cell? ⟨gW, n, none⟩ = some (.slice (some ⟨bw, ow, none⟩) 4 cw) ∧ wx.cell? ⟨bw, ow + k, none⟩ = some (.int .u8 a) ∧ wx.cell? ⟨bt, k, none⟩ = some (.int .u8 d) := fun wx hbx =>
            ⟨((hN.below hbx).hp.cell 1).trans rfl, ((hN.below hbx).own.cellAt n (by have := HNI.out; omega)).trans hv, (hbx.cell (p := ⟨bw, ow + k, none⟩) hbl).trans hz3, (hbx.cell (p := ⟨bt, k, none⟩) hbt).trans hz4⟩
           have HSK := Lib.hid hSk
           clear ha hd hvv htk hcb hbl hnb hpb hv hz3 hz4 hSk
           go_wp2
           refine wp_region_noPanic ?_
           refine wp_region_held (S := fun wx => wx.cell? ⟨p, 1, none⟩ = some (.slice (some ⟨gW, 0, none⟩) i cW) ∧ wx.cell? ⟨gW, n, none⟩ = some (.slice (some ⟨bw, ow, none⟩) 4 cw) ∧ wx.cell? ⟨bw, ow + k, none⟩ = some (.int .u8 a) ∧ wx.cell? ⟨bt, k, none⟩ = some (.int .u8 d)) (by kernel_rfl) ?_
           change wpAnyH _ _ _ _ _ _ _ _ (World.drew _)
           have hbd : Below wq.heap.size wq wr.drew := hb.drew
           have hod : wr.drew.ownsRow wq.heap.size 5 1 (.slice A k c) k (cells ((wd key i).take k)) := ho
           obtain ⟨hz1, hz2, hz3, hz4⟩ := HSK.out _ hbd
           clear hb ho
           generalize wr.drew = w4 at *
           refine wpAnyH_take (i := 0) (v := ?_) rfl (by kernel_rfl) (by kernel_rfl) (by kernel_rfl) (fun _ _ _ h => h) (Or.inl ⟨by rfl, ?_⟩) ⟨hz1, hz2, hz3, hz4⟩ ?_
           case refine_2 => (intro wz hz; go_simp; with_reducible rfl)
           simp only [Act.put, xgT, xgZ, xsT, xsS, xsZ]
           refine wpAnyH_take (i := 1) (v := ?_) rfl (by kernel_rfl) (by kernel_rfl) (by kernel_rfl) (fun _ _ _ h => h) (Or.inl ⟨by rfl, ?_⟩) ⟨hz1, hz2, hz3, hz4⟩ ?_
           case refine_2 => (intro wz hz; obtain ⟨z1, z2, z3, z4⟩ := hz; go_simp; with_reducible rfl)
           simp only [Act.put, xgT, xgS, xgZ, xsT, xsS, xsZ]
           refine wpAnyH_take (i := 2) (v := ?_) rfl (by kernel_rfl) (by kernel_rfl) (by kernel_rfl) (fun _ _ _ h => h) (Or.inl ⟨by rfl, ?_⟩) ⟨hz1, hz2, hz3, hz4⟩ ?_
           case refine_2 => (intro wz hz; obtain ⟨z1, z2, z3, z4⟩ := hz; go_simp; with_reducible rfl)
           simp only [Act.put, xgT, xgS, xgZ, xsT, xsS, xsZ]
           refine wpAnyH_take (i := 3) (v := ?_) rfl (by kernel_rfl) (by kernel_rfl) (by kernel_rfl) (fun _ _ _ h => h) (Or.inl ⟨by rfl, ?_⟩) ⟨hz1, hz2, hz3, hz4⟩ ?_
           case refine_2 => (intro wz hz; obtain ⟨z1, z2, z3, z4⟩ := hz; go_simp; with_reducible rfl)
           simp only [Act.put, xgT, xgS, xgZ, xsT, xsS, xsZ]
           refine wpAnyH_take (i := 4) (v := ?_) rfl (by kernel_rfl) (by kernel_rfl) (by kernel_rfl) (fun _ _ _ h => h) (Or.inl ⟨by rfl, ?_⟩) ⟨hz1, hz2, hz3, hz4⟩ ?_
           case refine_2 => (intro wz hz; obtain ⟨z1, z2, z3, z4⟩ := hz; go_simp; with_reducible rfl)
           simp only [Act.put, xgT, xgS, xgZ, xsT, xsS, xsZ]
           refine wpAnyH_take (i := 5) (v := ?_) rfl (by kernel_rfl) (by kernel_rfl) (by kernel_rfl) (fun _ _ _ h => h) (Or.inl ⟨by rfl, ?_⟩) ⟨hz1, hz2, hz3, hz4⟩ ?_
           case refine_2 => (intro wz hz; obtain ⟨z1, z2, z3, z4⟩ := hz; go_simp; with_reducible rfl)
           simp only [Act.put, xgT, xgS, xgZ, xsT, xsS, xsZ]
           refine wpAnyH_take (i := 6) (v := ?_) rfl (by kernel_rfl) (by kernel_rfl) (by kernel_rfl) (fun _ _ _ h => h) (Or.inl ⟨by rfl, ?_⟩) ⟨hz1, hz2, hz3, hz4⟩ ?_
           case refine_2 => (intro wz hz; obtain ⟨z1, z2, z3, z4⟩ := hz; go_simp; with_reducible rfl)
           simp only [Act.put, xgT, xgS, xgZ, xsT, xsS, xsZ]
           refine wpAnyH_take (i := 7) (v := ?_) rfl (by kernel_rfl) (by kernel_rfl) (by kernel_rfl) (fun _ _ _ h => h) (Or.inl ⟨by rfl, ?_⟩) ⟨hz1, hz2, hz3, hz4⟩ ?_
           case refine_2 => (intro wz hz; obtain ⟨z1, z2, z3, z4⟩ := hz; go_simp; with_reducible rfl)
           simp only [Act.put, xgT, xgS, xgZ, xsT, xsS, xsZ]
           refine wpAnyH_take (i := 8) (v := ?_) rfl (by kernel_rfl) (by kernel_rfl) (by kernel_rfl) (fun _ _ _ h => h) (Or.inl ⟨by rfl, ?_⟩) ⟨hz1, hz2, hz3, hz4⟩ ?_
           case refine_2 => (intro wz hz; obtain ⟨z1, z2, z3, z4⟩ := hz; go_simp; with_reducible rfl)
           simp only [Act.put, xgT, xgS, xgZ, xsT, xsS, xsZ]
           refine wpAnyH_take (i := 9) (v := ?_) rfl (by kernel_rfl) (by kernel_rfl) (by kernel_rfl) (fun _ _ _ h => h) (Or.inl ⟨by rfl, ?_⟩) ⟨hz1, hz2, hz3, hz4⟩ ?_
           case refine_2 => (intro wz hz; obtain ⟨z1, z2, z3, z4⟩ := hz; go_simp; with_reducible rfl)
           simp only [Act.put, xgT, xgS, xgZ, xsT, xsS, xsZ]
           refine wpAnyH_take (i := 10) (v := ?_) rfl (by kernel_rfl) (by kernel_rfl) (by kernel_rfl) (fun _ _ _ h => h) (Or.inl ⟨by rfl, ?_⟩) ⟨hz1, hz2, hz3, hz4⟩ ?_
           case refine_2 => (intro wz hz; obtain ⟨z1, z2, z3, z4⟩ := hz; go_simp; with_reducible rfl)
           simp only [Act.put, xgT, xgS, xgZ, xsT, xsS, xsZ]
           refine wpAnyH_take (i := 11) (v := ?_) rfl (by kernel_rfl) (by kernel_rfl) (by kernel_rfl) (fun _ _ _ h => h) (Or.inl ⟨by rfl, ?_⟩) ⟨hz1, hz2, hz3, hz4⟩ ?_
           case refine_2 => (intro wz hz; obtain ⟨z1, z2, z3, z4⟩ := hz; go_simp; with_reducible rfl)
           simp only [Act.put, xgT, xgS, xgZ, xsT, xsS, xsZ]
           refine wpAnyH_take (i := 12) (v := ?_) rfl (by kernel_rfl) (by kernel_rfl) (by kernel_rfl) (fun _ _ _ h => h) (Or.inl ⟨by rfl, ?_⟩) ⟨hz1, hz2, hz3, hz4⟩ ?_
           case refine_2 => (intro wz hz; obtain ⟨z1, z2, z3, z4⟩ := hz; go_simp; with_reducible rfl)
           simp only [Act.put, xgT, xgS, xgZ, xsT, xsS, xsZ]
           refine wpAnyH_take (i := 13) (v := ?_) rfl (by kernel_rfl) (by kernel_rfl) (by kernel_rfl) (fun _ _ _ h => h) (Or.inl ⟨by rfl, ?_⟩) ⟨hz1, hz2, hz3, hz4⟩ ?_
           case refine_2 => (intro wz hz; obtain ⟨z1, z2, z3, z4⟩ := hz; go_simp; with_reducible rfl)
           simp only [Act.put, xgT, xgS, xgZ, xsT, xsS, xsZ]
           refine wpAnyH_take (i := 14) (v := ?_) rfl (by kernel_rfl) (by kernel_rfl) (by kernel_rfl) (fun _ _ _ h => h) (Or.inl ⟨by rfl, ?_⟩) ⟨hz1, hz2, hz3, hz4⟩ ?_
           case refine_2 => (intro wz hz; obtain ⟨z1, z2, z3, z4⟩ := hz; go_simp; with_reducible rfl)
           simp only [Act.put, xgT, xgS, xgZ, xsT, xsS, xsZ]
           refine wpAnyH_take (i := 15) (v := ?_) rfl (by kernel_rfl) (by kernel_rfl) (by kernel_rfl) (fun _ _ _ h => h) (Or.inl ⟨by rfl, ?_⟩) ⟨hz1, hz2, hz3, hz4⟩ ?_
           case refine_2 => (intro wz hz; obtain ⟨z1, z2, z3, z4⟩ := hz; go_simp; with_reducible rfl)
           simp only [Act.put, xgT, xgS, xgZ, xsT, xsS, xsZ]
           refine wpAnyH_take (i := 16) (v := ?_) rfl (by kernel_rfl) (by kernel_rfl) (by kernel_rfl) (fun _ _ _ h => h) (Or.inl ⟨by rfl, ?_⟩) ⟨hz1, hz2, hz3, hz4⟩ ?_
           case refine_2 => (intro wz hz; obtain ⟨z1, z2, z3, z4⟩ := hz; go_simp; with_reducible rfl)
           simp only [Act.put, xgT, xgS, xgZ, xsT, xsS, xsZ]
           refine anyH_one (i := 17) (by kernel_rfl) rfl rfl (fun H hH => ?_)
           simp only [xgT, xgS, xgZ]
           go_simp
           refine hH _ _ (HSK.out _ (hbd.alloc hbd.size _)) ?_
           clear hH H
           refine anyH_one (i := 18) (by kernel_rfl) rfl rfl (fun H hH => ?_)
           simp only [xgT, xgS, xgZ]
           refine wp_append_rd _ (.tmp 103) (.tmp 120) rfl Tryz.underlying32 u8_inf wq.heap.size (.slice A k c) k ((wd key i).take k) (by rfl) (hod.alloc _) (some ⟨w4.heap.size, 0, none⟩) 1 1 [(wd key i).getD k 0] (by rfl) (rd_one8 w4 _ v HV.out _) (by omega) (by have := hbd.size; simp; omega) ?_
           intro v5 w5 ho5 hg5 hat5
           have hltb := hod.lt
           have hb5 := (hbd.alloc hbd.size (.cells #[.int .u8 v] 5)).grown hg5 (Nat.le_trans hbd.size (by simp)) (fun q hq => (hltb q hq).1)
           obtain ⟨A5, c5, rfl⟩ := slot_form ho5
           refine hH _ _ (HSK.out _ hb5) ?_
           clear hH H
           obtain ⟨hz1, hz2, hz3, hz4⟩ := HSK.out _ hb5
           refine wpAnyH_take (i := 19) (v := ?_) rfl (by kernel_rfl) (by kernel_rfl) (by kernel_rfl) (fun _ _ _ h => h) (Or.inl ⟨by rfl, ?_⟩) ⟨hz1, hz2, hz3, hz4⟩ ?_
           case refine_2 => (intro wz hz; obtain ⟨z1, z2, z3, z4⟩ := hz; go_simp; with_reducible rfl)
           simp only [Act.put, xgT, xgS, xgZ, xsT, xsS, xsZ]
           refine wpAnyH_done (by kernel_rfl) ?_ _
           refine NoPanic.normal ?_
           rw [← HTK.out] at ho5
           clear hz1 hz2 hz3 hz4 HSK hod hbd hg5 hat5
           go_wp2
           go_roundw
           case rel => exact ⟨k + 1, A5, c5, by omega, rfl, by go_num, ho5, hb5⟩
           case measure => simp [intOf]; omega
         · obtain rfl : k = 4 := by omega
           rw [List.take_of_length_le (by rw [wd_len]; omega)] at ho
           obtain ⟨D, cD, hv, hDq, hDl⟩ := ho.form (by omega)
           injection hv with hv1 _ hv3
           subst hv1; subst hv3
           have hN2 := (hN.below hb).alloc (.cells #[.slice (some ⟨D, 0, none⟩) 4 c] 32)
           have hDp : p < D := Nat.lt_of_lt_of_le hN.hp.lt hDq
           have hDn : (Value.slice (some ⟨gW, 0, none⟩) i cW).ownBlock ≠ some D := fun e => by have := (hN.own.lt _ e).2; omega
           have hDc : ∀ m, m < 4 → (wr.alloc (.cells #[.slice (some ⟨D, 0, none⟩) 4 c] 32)).cell? ⟨D, 0 + m, none⟩ = some (.int .u8 (((wd key i).getD m 0).toNat : Int)) := fun m hm => by
            rw [Nat.zero_add, ((Below.refl wr.heap.size wr).alloc (Nat.le_refl _) _).cell (p := ⟨D, m, none⟩) hDl, ho.cellAt m (by omega)]
            exact cells_at (by rw [wd_len]; exact hm)
           have hDl2 : D < (wr.alloc (.cells #[.slice (some ⟨D, 0, none⟩) 4 c] 32)).heap.size := by simp; omega
           have hcr := (hN.below hb).hp.cell 1
           simp only [List.getElem?_cons_succ, List.getElem?_cons_zero] at hcr
           have hone : (wr.alloc (.cells #[.slice (some ⟨D, 0, none⟩) 4 c] 32)).cell? ((⟨wr.heap.size, 0, none⟩ : Addr).add 0) = some (.slice (some ⟨D, 0, none⟩) 4 c) := by
            rw [add_lit]
            exact (BlkV.new wr _ [.slice (some ⟨D, 0, none⟩) 4 c]).cell 0
           have hin : (i : Int) < 44 := by omega
           have HDC := Lib.hid hDc
           have HONE := Lib.hid hone
           clear hDc hone ho
           go_wp2_with (at_builtin; refine wpList_app1 _ rfl (.tmp 126) (.tmp 128) rfl Tryz.underlying80 info_s8 rfl (by omega) (p + 1) (.slice (some ⟨gW, 0, none⟩) i cW) i vs rfl hN2.own ⟨wr.heap.size, 0, none⟩ 1 rfl (.slice (some ⟨D, 0, none⟩) 4 c) HONE.out rfl (by omega) (by have := hN2.hp.lt; omega) ?_; intro v3 w3 hown3 hg3 hat3 _; obtain ⟨A3, c3, rfl⟩ := slot_form hown3; have hp3 := hN2.hp.grown hg3 (fun e => by have := (hN2.own.lt _ e.symm).1; omega); have hcp3 := hp3.cell 1; have hfp3 := hp3.frozen 1; simp only [List.getElem?_cons_succ, List.getElem?_cons_zero] at hcp3; have hpush := hN2.push (o := 0) hDp hDl2 hDn HDC.out hown3 hg3 hat3; clear hown3 hg3 hat3 hp3)
           go_roundw
           case rel => exact ⟨i + 1, _, _, by omega, by go_num, by rw [HRC.out], hpush⟩
           case measure => simp [intOf]; omega
      · obtain ⟨ρ, hρ⟩ : ∃ ρ : Nat, ρ = i % 4 := ⟨_, rfl⟩
        have hmod : (i : Int) % 4 = (ρ : Int) := by omega
        have hρ0 : ((ρ : Int) == 0) = false := by simp; omega
        have HM := Lib.hid hm
        clear hni hn hm1 hm hρ
        go_wp2
        have hni := HNI.out
        have hm1 := HM1.out
        have hm := HM.out
        clear q1 q2 q3 hcp1 hcw1 hmod hρ0 hd4
        obtain ⟨T, hT⟩ : ∃ T, T = wd key m1 := ⟨_, rfl⟩
        have htt : ∀ k, k < 4 → (wd key n).getD k 0 ^^^ T.getD k 0 = (wd key i).getD k 0 := by
         intro k hk
         have := wd_new key HK.out n k (by omega) hk
         rw [hni, ← this, hT, hm1, hni, show n + 4 - 1 = n + 3 by omega]
         unfold twW
         rw [if_neg hm]
        rw [← hT] at hcb1
        have HTT := Lib.hid htt
        obtain ⟨wq, hwq⟩ : ∃ x : World, x = wr := ⟨_, rfl⟩
        subst hwq
        obtain ⟨bt, hbte⟩ : ∃ b, b = b1 := ⟨_, rfl⟩
        obtain ⟨ot, hote⟩ : ∃ b, b = o1 := ⟨_, rfl⟩
        have hbt : bt < wq.heap.size := by omega
        have hct : ∀ k, k < 4 → wq.cell? ⟨bt, ot + k, none⟩ = some (.int .u8 ((T.getD k 0).toNat : Int)) := by
         rw [hbte, hote]; exact hcb1
        rw [← hbte, ← hote]
        clear hT htt hbte hote hcb1 hv1 hm1 hni hm
        go_loopw [7, 8] (fun vv vk wr => ∃ (k : Nat) (A : Option Addr) (c : Nat), k ≤ 4 ∧ vv = .slice A k c ∧ vk = .int .i64 k ∧ wr.ownsRow wq.heap.size 5 1 (.slice A k c) k (cells ((wd key i).take k)) ∧ Below wq.heap.size wq wr) (fun _ k _ => 4 - (intOf k).toNat)
        case atStart => exact ⟨0, none, 0, by omega, rfl, rfl, World.ownsRow_nil _ _ _ _, Below.refl _ _⟩
        case round =>
         obtain ⟨k, A, c, hk4, rfl, rfl, ho, hb⟩ := hrel
         by_cases hltk : k < 4
         · obtain ⟨bw, ow, cw, hv, hpb, hbl, hnb, hcb⟩ := hN.rows n (by have := HNI.out; omega)
           have hz3 := hcb k hltk
           have hz4 := hct k hltk
           obtain ⟨a, ha, a1, a2⟩ := u8_ex ((wd key n).getD k 0)
           obtain ⟨d, hd, d1, d2⟩ := u8_ex (T.getD k 0)
           obtain ⟨v, hvv, v1, v2⟩ := u8_ex ((wd key i).getD k 0)
           have hxx := xr8i (k := v) ha hd (by rw [HTT.out k hltk]; exact hvv)
           rw [← ha] at hz3
           rw [← hd] at hz4
           have HV := Lib.hid hvv
           have htk : (wd key i).take (k + 1) = (wd key i).take k ++ [(wd key i).getD k 0] := by
            rw [List.take_succ_eq_append_getElem (by rw [wd_len]; exact hltk)]
            simp [List.getD_eq_getElem?_getD, wd_len, hltk]
           have HTK := Lib.hid htk
           have hni := HNI.out
           have e1 : IntKind.i64.wrap ((i : Int) - 4) = (n : Int) := by rw [show (i : Int) - 4 = (n : Int) by omega]; exact IntWalk.i64_in _ (by omega)
           have f1 : (n : Int) < (i : Int) := by omega
           have f2 : n < i := by omega
           have f3 : (k : Int) < 4 := by omega
           have hltw := hb.size
           clear hni
           have hSk : ∀ wx, Below wq.heap.size wq wx → wx.cell? ⟨p, 1, none⟩ = some (.slice (some ⟨gW, 0, none⟩) i cW) ∧ wx.cell? ⟨gW, n, none⟩ = some (.slice (some ⟨bw, ow, none⟩) 4 cw) ∧ wx.cell? ⟨bw, ow + k, none⟩ = some (.int .u8 a) ∧ wx.cell? ⟨bt, ot + k, none⟩ = some (.int .u8 d) := fun wx hbx =>
            ⟨((hN.below hbx).hp.cell 1).trans rfl, ((hN.below hbx).own.cellAt n (by have := HNI.out; omega)).trans hv, (hbx.cell (p := ⟨bw, ow + k, none⟩) hbl).trans hz3, (hbx.cell (p := ⟨bt, ot + k, none⟩) hbt).trans hz4⟩
           have HSK := Lib.hid hSk
           clear ha hd hvv htk hcb hbl hnb hpb hv hz3 hz4 hSk
           go_wp2
           refine wp_region_noPanic ?_
           refine wp_region_held (S := fun wx => wx.cell? ⟨p, 1, none⟩ = some (.slice (some ⟨gW, 0, none⟩) i cW) ∧ wx.cell? ⟨gW, n, none⟩ = some (.slice (some ⟨bw, ow, none⟩) 4 cw) ∧ wx.cell? ⟨bw, ow + k, none⟩ = some (.int .u8 a) ∧ wx.cell? ⟨bt, ot + k, none⟩ = some (.int .u8 d)) (by kernel_rfl) ?_
           change wpAnyH _ _ _ _ _ _ _ _ (World.drew _)
           have hbd : Below wq.heap.size wq wr.drew := hb.drew
           have hod : wr.drew.ownsRow wq.heap.size 5 1 (.slice A k c) k (cells ((wd key i).take k)) := ho
           obtain ⟨hz1, hz2, hz3, hz4⟩ := HSK.out _ hbd
           clear hb ho
           generalize wr.drew = w4 at *
           refine wpAnyH_take (i := 0) (v := ?_) rfl (by kernel_rfl) (by kernel_rfl) (by kernel_rfl) (fun _ _ _ h => h) (Or.inl ⟨by rfl, ?_⟩) ⟨hz1, hz2, hz3, hz4⟩ ?_
           case refine_2 => (intro wz hz; go_simp; with_reducible rfl)
           simp only [Act.put, xgT, xgZ, xsT, xsS, xsZ]
           refine wpAnyH_take (i := 1) (v := ?_) rfl (by kernel_rfl) (by kernel_rfl) (by kernel_rfl) (fun _ _ _ h => h) (Or.inl ⟨by rfl, ?_⟩) ⟨hz1, hz2, hz3, hz4⟩ ?_
           case refine_2 => (intro wz hz; obtain ⟨z1, z2, z3, z4⟩ := hz; go_simp; with_reducible rfl)
           simp only [Act.put, xgT, xgS, xgZ, xsT, xsS, xsZ]
           refine wpAnyH_take (i := 2) (v := ?_) rfl (by kernel_rfl) (by kernel_rfl) (by kernel_rfl) (fun _ _ _ h => h) (Or.inl ⟨by rfl, ?_⟩) ⟨hz1, hz2, hz3, hz4⟩ ?_
           case refine_2 => (intro wz hz; obtain ⟨z1, z2, z3, z4⟩ := hz; go_simp; with_reducible rfl)
           simp only [Act.put, xgT, xgS, xgZ, xsT, xsS, xsZ]
           refine wpAnyH_take (i := 3) (v := ?_) rfl (by kernel_rfl) (by kernel_rfl) (by kernel_rfl) (fun _ _ _ h => h) (Or.inl ⟨by rfl, ?_⟩) ⟨hz1, hz2, hz3, hz4⟩ ?_
           case refine_2 => (intro wz hz; obtain ⟨z1, z2, z3, z4⟩ := hz; go_simp; with_reducible rfl)
           simp only [Act.put, xgT, xgS, xgZ, xsT, xsS, xsZ]
           refine wpAnyH_take (i := 4) (v := ?_) rfl (by kernel_rfl) (by kernel_rfl) (by kernel_rfl) (fun _ _ _ h => h) (Or.inl ⟨by rfl, ?_⟩) ⟨hz1, hz2, hz3, hz4⟩ ?_
           case refine_2 => (intro wz hz; obtain ⟨z1, z2, z3, z4⟩ := hz; go_simp; with_reducible rfl)
           simp only [Act.put, xgT, xgS, xgZ, xsT, xsS, xsZ]
           refine wpAnyH_take (i := 5) (v := ?_) rfl (by kernel_rfl) (by kernel_rfl) (by kernel_rfl) (fun _ _ _ h => h) (Or.inl ⟨by rfl, ?_⟩) ⟨hz1, hz2, hz3, hz4⟩ ?_
           case refine_2 => (intro wz hz; obtain ⟨z1, z2, z3, z4⟩ := hz; go_simp; with_reducible rfl)
           simp only [Act.put, xgT, xgS, xgZ, xsT, xsS, xsZ]
           refine wpAnyH_take (i := 6) (v := ?_) rfl (by kernel_rfl) (by kernel_rfl) (by kernel_rfl) (fun _ _ _ h => h) (Or.inl ⟨by rfl, ?_⟩) ⟨hz1, hz2, hz3, hz4⟩ ?_
           case refine_2 => (intro wz hz; obtain ⟨z1, z2, z3, z4⟩ := hz; go_simp; with_reducible rfl)
           simp only [Act.put, xgT, xgS, xgZ, xsT, xsS, xsZ]
           refine wpAnyH_take (i := 7) (v := ?_) rfl (by kernel_rfl) (by kernel_rfl) (by kernel_rfl) (fun _ _ _ h => h) (Or.inl ⟨by rfl, ?_⟩) ⟨hz1, hz2, hz3, hz4⟩ ?_
           case refine_2 => (intro wz hz; obtain ⟨z1, z2, z3, z4⟩ := hz; go_simp; with_reducible rfl)
           simp only [Act.put, xgT, xgS, xgZ, xsT, xsS, xsZ]
           refine wpAnyH_take (i := 8) (v := ?_) rfl (by kernel_rfl) (by kernel_rfl) (by kernel_rfl) (fun _ _ _ h => h) (Or.inl ⟨by rfl, ?_⟩) ⟨hz1, hz2, hz3, hz4⟩ ?_
           case refine_2 => (intro wz hz; obtain ⟨z1, z2, z3, z4⟩ := hz; go_simp; with_reducible rfl)
           simp only [Act.put, xgT, xgS, xgZ, xsT, xsS, xsZ]
           refine wpAnyH_take (i := 9) (v := ?_) rfl (by kernel_rfl) (by kernel_rfl) (by kernel_rfl) (fun _ _ _ h => h) (Or.inl ⟨by rfl, ?_⟩) ⟨hz1, hz2, hz3, hz4⟩ ?_
           case refine_2 => (intro wz hz; obtain ⟨z1, z2, z3, z4⟩ := hz; go_simp; with_reducible rfl)
           simp only [Act.put, xgT, xgS, xgZ, xsT, xsS, xsZ]
           refine wpAnyH_take (i := 10) (v := ?_) rfl (by kernel_rfl) (by kernel_rfl) (by kernel_rfl) (fun _ _ _ h => h) (Or.inl ⟨by rfl, ?_⟩) ⟨hz1, hz2, hz3, hz4⟩ ?_
           case refine_2 => (intro wz hz; obtain ⟨z1, z2, z3, z4⟩ := hz; go_simp; with_reducible rfl)
           simp only [Act.put, xgT, xgS, xgZ, xsT, xsS, xsZ]
           refine wpAnyH_take (i := 11) (v := ?_) rfl (by kernel_rfl) (by kernel_rfl) (by kernel_rfl) (fun _ _ _ h => h) (Or.inl ⟨by rfl, ?_⟩) ⟨hz1, hz2, hz3, hz4⟩ ?_
           case refine_2 => (intro wz hz; obtain ⟨z1, z2, z3, z4⟩ := hz; go_simp; with_reducible rfl)
           simp only [Act.put, xgT, xgS, xgZ, xsT, xsS, xsZ]
           refine wpAnyH_take (i := 12) (v := ?_) rfl (by kernel_rfl) (by kernel_rfl) (by kernel_rfl) (fun _ _ _ h => h) (Or.inl ⟨by rfl, ?_⟩) ⟨hz1, hz2, hz3, hz4⟩ ?_
           case refine_2 => (intro wz hz; obtain ⟨z1, z2, z3, z4⟩ := hz; go_simp; with_reducible rfl)
           simp only [Act.put, xgT, xgS, xgZ, xsT, xsS, xsZ]
           refine wpAnyH_take (i := 13) (v := ?_) rfl (by kernel_rfl) (by kernel_rfl) (by kernel_rfl) (fun _ _ _ h => h) (Or.inl ⟨by rfl, ?_⟩) ⟨hz1, hz2, hz3, hz4⟩ ?_
           case refine_2 => (intro wz hz; obtain ⟨z1, z2, z3, z4⟩ := hz; go_simp; with_reducible rfl)
           simp only [Act.put, xgT, xgS, xgZ, xsT, xsS, xsZ]
           refine wpAnyH_take (i := 14) (v := ?_) rfl (by kernel_rfl) (by kernel_rfl) (by kernel_rfl) (fun _ _ _ h => h) (Or.inl ⟨by rfl, ?_⟩) ⟨hz1, hz2, hz3, hz4⟩ ?_
           case refine_2 => (intro wz hz; obtain ⟨z1, z2, z3, z4⟩ := hz; go_simp; with_reducible rfl)
           simp only [Act.put, xgT, xgS, xgZ, xsT, xsS, xsZ]
           refine wpAnyH_take (i := 15) (v := ?_) rfl (by kernel_rfl) (by kernel_rfl) (by kernel_rfl) (fun _ _ _ h => h) (Or.inl ⟨by rfl, ?_⟩) ⟨hz1, hz2, hz3, hz4⟩ ?_
           case refine_2 => (intro wz hz; obtain ⟨z1, z2, z3, z4⟩ := hz; go_simp; with_reducible rfl)
           simp only [Act.put, xgT, xgS, xgZ, xsT, xsS, xsZ]
           refine wpAnyH_take (i := 16) (v := ?_) rfl (by kernel_rfl) (by kernel_rfl) (by kernel_rfl) (fun _ _ _ h => h) (Or.inl ⟨by rfl, ?_⟩) ⟨hz1, hz2, hz3, hz4⟩ ?_
           case refine_2 => (intro wz hz; obtain ⟨z1, z2, z3, z4⟩ := hz; go_simp; with_reducible rfl)
           simp only [Act.put, xgT, xgS, xgZ, xsT, xsS, xsZ]
           refine anyH_one (i := 17) (by kernel_rfl) rfl rfl (fun H hH => ?_)
           simp only [xgT, xgS, xgZ]
           go_simp
           refine hH _ _ (HSK.out _ (hbd.alloc hbd.size _)) ?_
           clear hH H
           refine anyH_one (i := 18) (by kernel_rfl) rfl rfl (fun H hH => ?_)
           simp only [xgT, xgS, xgZ]
           refine wp_append_rd _ (.tmp 103) (.tmp 120) rfl Tryz.underlying32 u8_inf wq.heap.size (.slice A k c) k ((wd key i).take k) (by rfl) (hod.alloc _) (some ⟨w4.heap.size, 0, none⟩) 1 1 [(wd key i).getD k 0] (by rfl) (rd_one8 w4 _ v HV.out _) (by omega) (by have := hbd.size; simp; omega) ?_
           intro v5 w5 ho5 hg5 hat5
           have hltb := hod.lt
           have hb5 := (hbd.alloc hbd.size (.cells #[.int .u8 v] 5)).grown hg5 (Nat.le_trans hbd.size (by simp)) (fun q hq => (hltb q hq).1)
           obtain ⟨A5, c5, rfl⟩ := slot_form ho5
           refine hH _ _ (HSK.out _ hb5) ?_
           clear hH H
           obtain ⟨hz1, hz2, hz3, hz4⟩ := HSK.out _ hb5
           refine wpAnyH_take (i := 19) (v := ?_) rfl (by kernel_rfl) (by kernel_rfl) (by kernel_rfl) (fun _ _ _ h => h) (Or.inl ⟨by rfl, ?_⟩) ⟨hz1, hz2, hz3, hz4⟩ ?_
           case refine_2 => (intro wz hz; obtain ⟨z1, z2, z3, z4⟩ := hz; go_simp; with_reducible rfl)
           simp only [Act.put, xgT, xgS, xgZ, xsT, xsS, xsZ]
           refine wpAnyH_done (by kernel_rfl) ?_ _
           refine NoPanic.normal ?_
           rw [← HTK.out] at ho5
           clear hz1 hz2 hz3 hz4 HSK hod hbd hg5 hat5
           go_wp2
           go_roundw
           case rel => exact ⟨k + 1, A5, c5, by omega, rfl, by go_num, ho5, hb5⟩
           case measure => simp [intOf]; omega
         · obtain rfl : k = 4 := by omega
           rw [List.take_of_length_le (by rw [wd_len]; omega)] at ho
           obtain ⟨D, cD, hv, hDq, hDl⟩ := ho.form (by omega)
           injection hv with hv1 _ hv3
           subst hv1; subst hv3
           have hN2 := (hN.below hb).alloc (.cells #[.slice (some ⟨D, 0, none⟩) 4 c] 32)
           have hDp : p < D := Nat.lt_of_lt_of_le hN.hp.lt hDq
           have hDn : (Value.slice (some ⟨gW, 0, none⟩) i cW).ownBlock ≠ some D := fun e => by have := (hN.own.lt _ e).2; omega
           have hDc : ∀ m, m < 4 → (wr.alloc (.cells #[.slice (some ⟨D, 0, none⟩) 4 c] 32)).cell? ⟨D, 0 + m, none⟩ = some (.int .u8 (((wd key i).getD m 0).toNat : Int)) := fun m hm => by
            rw [Nat.zero_add, ((Below.refl wr.heap.size wr).alloc (Nat.le_refl _) _).cell (p := ⟨D, m, none⟩) hDl, ho.cellAt m (by omega)]
            exact cells_at (by rw [wd_len]; exact hm)
           have hDl2 : D < (wr.alloc (.cells #[.slice (some ⟨D, 0, none⟩) 4 c] 32)).heap.size := by simp; omega
           have hcr := (hN.below hb).hp.cell 1
           simp only [List.getElem?_cons_succ, List.getElem?_cons_zero] at hcr
           have hone : (wr.alloc (.cells #[.slice (some ⟨D, 0, none⟩) 4 c] 32)).cell? ((⟨wr.heap.size, 0, none⟩ : Addr).add 0) = some (.slice (some ⟨D, 0, none⟩) 4 c) := by
            rw [add_lit]
            exact (BlkV.new wr _ [.slice (some ⟨D, 0, none⟩) 4 c]).cell 0
           have hin : (i : Int) < 44 := by omega
           have HDC := Lib.hid hDc
           have HONE := Lib.hid hone
           clear hDc hone ho
           go_wp2_with (at_builtin; refine wpList_app1 _ rfl (.tmp 126) (.tmp 128) rfl Tryz.underlying80 info_s8 rfl (by omega) (p + 1) (.slice (some ⟨gW, 0, none⟩) i cW) i vs rfl hN2.own ⟨wr.heap.size, 0, none⟩ 1 rfl (.slice (some ⟨D, 0, none⟩) 4 c) HONE.out rfl (by omega) (by have := hN2.hp.lt; omega) ?_; intro v3 w3 hown3 hg3 hat3 _; obtain ⟨A3, c3, rfl⟩ := slot_form hown3; have hp3 := hN2.hp.grown hg3 (fun e => by have := (hN2.own.lt _ e.symm).1; omega); have hcp3 := hp3.cell 1; have hfp3 := hp3.frozen 1; simp only [List.getElem?_cons_succ, List.getElem?_cons_zero] at hcp3; have hpush := hN2.push (o := 0) hDp hDl2 hDn HDC.out hown3 hg3 hat3; clear hown3 hg3 hat3 hp3)
           go_roundw
           case rel => exact ⟨i + 1, _, _, by omega, by go_num, by rw [show (i + 1 - 1) / 4 = (i - 1) / 4 by have := HM.out; have := HNI.out; omega], hpush⟩
           case measure => simp [intOf]; omega
  · obtain rfl : i = 44 := by omega
    go_wp2
    go_ret
    exact ⟨p, gB, vs, vW, rfl, hN⟩
end Go.Proofs.YtheefckohnaceaaGreatDoor
