/- Contracts of package rtcp: the packets of a compound, and Read, where the bytes are one. No statement is proved here. -/
import Derived.Test.YtacaempcbdekaaaDoorRtcp7
import Derived.Recover
import Derived.Tactics2
import Derived.Laws.ResultCell
namespace Go.Proofs.YtacaempcbdekaaaDoor
open Go.RowKit
set_option linter.unusedVariables false

theorem elCtl : ElT 50 22 13 := elT (z := .agg zA) (by8 := 168) (by kernel_rfl) (by kernel_rfl) (by decide) rfl (by decide)
theorem own_typ {w : World} {base n s : Nat} {e : TypeId} {v : Value} {xs : List Value} (h : w.ownsRow base e s v n xs) : ∀ p, v.ownBlock = some p → ∃ (cur : Array Value) (fz : Nat × Nat), w.heap[p]? = some (.cells cur e fz) := by
  intro p hp
  rcases h.2 with ⟨rfl, _⟩ | ⟨g, cap, cur, rfl, _, hg, _⟩
  · simp [Value.ownBlock] at hp
  · simp [Value.ownBlock] at hp
    subst hp
    exact ⟨cur, _, hg⟩
/-- A slice of the call's own holds these packets. -/
def OwnCs (w : World) (b : Nat) (v : Value) (l : List Ctl) : Prop := ∃ css : List (List Value), w.ownsRow b 50 13 v l.length css.flatten ∧ css.length = l.length ∧ ∀ (i : Nat) (cs : List Value) (c : Ctl), css[i]? = some cs → l[i]? = some c → OwnC w b cs c
theorem OwnCs.below {w w' : World} {b : Nat} {v : Value} {l : List Ctl} (h : OwnCs w b v l) (hb : Below w.heap.size w w') : OwnCs w' b v l := by
  obtain ⟨css, h1, h2, h3⟩ := h
  exact ⟨css, own_thN h1 (grown_of_below hb none) (fun p hp => by cases hp), h2, fun i cs c hi hj => (h3 i cs c hi hj).below hb⟩
theorem OwnCs.nil (w : World) (b : Nat) : OwnCs w b (.slice none 0 0) [] := ⟨[], nilN _ _ _ _, rfl, fun i cs c h => by simp at h⟩
theorem OwnCs.mono {w : World} {b b2 : Nat} {v : Value} {l : List Ctl} (h : OwnCs w b v l) (hb : b2 ≤ b) : OwnCs w b2 v l := by
  obtain ⟨css, h1, h2, h3⟩ := h
  exact ⟨css, own_moN h1 hb, h2, fun i cs c hi hj => (h3 i cs c hi hj).mono hb⟩
/-- One more. -/
theorem OwnCs.more {w w' : World} {b : Nat} {v v' : Value} {l : List Ctl} {css : List (List Value)} {cs : List Value} {c : Ctl} (h1 : w.ownsRow b 50 13 v l.length css.flatten) (h2 : css.length = l.length) (h3 : ∀ (i : Nat) (cs : List Value) (c : Ctl), css[i]? = some cs → l[i]? = some c → OwnC w b cs c) (hc : OwnC w b cs c)
    (hn : w'.ownsRow b 50 13 v' (l.length + 1) (css.flatten ++ cs)) (hg : w.grownBy w' v.ownBlock) : OwnCs w' b v' (l ++ [c]) := by
  have ht : ∀ p, v.ownBlock = some p → p < b ∨ ∃ (cur : Array Value) (fz : Nat × Nat), w.heap[p]? = some (.cells cur 50 fz) := fun p hp => .inr (own_typ h1 p hp)
  refine ⟨css ++ [cs], by simpa using hn, by simp [h2], fun i cs' c' hi hj => ?_⟩
  rcases Nat.lt_or_ge i css.length with h | h
  · rw [List.getElem?_append_left h] at hi
    rw [List.getElem?_append_left (by omega)] at hj
    exact (h3 i cs' c' hi hj).th hg ht
  · rw [List.getElem?_append_right h] at hi
    rw [List.getElem?_append_right (by omega), ← h2] at hj
    have h0 : i - css.length = 0 := by
      have := (List.getElem?_eq_some_iff.1 hi).1
      simp at this; omega
    rw [h0] at hi hj
    simp at hi hj
    subst hi; subst hj
    exact hc.th hg ht

/-- These bytes are that packet. -/
def PacketIs (pb : List UInt8) (c : Ctl) : Prop := (∃ m, numb ((pb.drop 2).take 2) = m ∧ 4 + 4 * m = pb.length) ∧
  ∀ A n cc w, Tab w → 0 < w.heap.size → RdS w A n cc pb → Calls Tryd.prog 37 #[.slice A n cc] w fun r w' => ∃ cs, r = .returned (.agg cs.toArray) ∧ OwnC w' w.heap.size cs c ∧ Below w.heap.size w w'
theorem flat_drop {α : Type} (f : α → List UInt8) {L : List α} {k : Nat} (h : k < L.length) : (L.drop k).flatMap f = f L[k] ++ (L.drop (k + 1)).flatMap f := by
  rw [drop_at h, List.flatMap_cons]
theorem RdS.len0 {w : World} {A : Option Addr} {n c : Nat} {bs : List UInt8} (h : RdS w A n c bs) : n = bs.length := h.1.symm

set_option maxRecDepth 100000 in
set_option maxHeartbeats 1000000 in
theorem compound_ok (ps : List (List UInt8 × Ctl)) (A : Option Addr) (n c N : Nat) (w : World) (ht : Tab w) (hw : 0 < w.heap.size) (hN : N = ps.length) (h1 : 1 ≤ N) (h8 : N ≤ 8) (hps : ∀ p ∈ ps, PacketIs p.1 p.2) (hr : RdS w A n c (ps.flatMap (·.1))) :
    Calls Tryd.prog 25 #[.slice A n c] w fun r w' => ∃ A' c', r = .returned (.slice A' N c') ∧ OwnCs w' w.heap.size (.slice A' N c') (ps.map (·.2)) ∧ Below w.heap.size w w' := by
  have HP := Lib.hid hps
  have HN := Lib.hid hN
  have HT := Lib.hid ht
  have hpos : 0 < n := by
    have h2 := hr.len
    have h3 := flat_drop (fun p : List UInt8 × Ctl => p.1) (L := ps) (k := 0) (by omega)
    rw [List.drop_zero] at h3
    obtain ⟨⟨m, _, hm⟩, _⟩ := hps _ (List.getElem_mem (show 0 < ps.length by omega))
    rw [h3, List.length_append] at h2
    omega
  have hs := hr.small
  have HR := Lib.hid hr
  clear hps hN ht hr
  go_enter Tryd.func25, Tryd.ntmps25
  go_wp2_with (go_at_call 24; ((with_reducible refine (refuse_no _ _ _ ?_).mono ?_); (first | rfl | (simp; omega)); rintro e wx ⟨rfl, rfl⟩))
  go_loopw [0, 3] (fun vb v wr => ∃ (k : Nat) (Ab : Option Addr) (nb cb : Nat) (A' : Option Addr) (c' : Nat), k ≤ N ∧ vb = .slice Ab nb cb ∧ v = .slice A' k c' ∧ Hid (RdS wr Ab nb cb ((ps.drop k).flatMap (·.1)) ∧ OwnCs wr w.heap.size (.slice A' k c') ((ps.take k).map (·.2)) ∧ Below w.heap.size w wr ∧ LoN Ab nb w.heap.size)) (fun _ v _ => N - lenOf v)
  case atStart => exact ⟨0, A, n, c, none, 0, by omega, rfl, rfl, Lib.hid ⟨HR.out, OwnCs.nil _ _, Below.refl _ _, HR.out.lo (Nat.le_refl _)⟩⟩
  case round =>
    obtain ⟨k, Ab, nb, cb, A1, c1, hk, rfl, rfl, HL⟩ := hrel
    have hsm := HL.out.1.small
    have hlb := HL.out.1.len
    by_cases hkn : k < N
    · have hkl : k < ps.length := by rw [← HN.out]; exact hkn
      obtain ⟨⟨m, hm, hml⟩, hpk⟩ := HP.out _ (List.getElem_mem hkl)
      have hfd := flat_drop (fun p : List UInt8 × Ctl => p.1) hkl
      rw [hfd] at HL hlb
      have HV : Hid ((ps.take (k + 1)).map (·.2) = (ps.take k).map (·.2) ++ [ps[k].2]) := Lib.hid (by rw [List.take_add_one, List.getElem?_eq_getElem hkl, List.map_append]; rfl)
      obtain ⟨pb, hpb⟩ : ∃ pb, pb = ps[k].1 := ⟨_, rfl⟩
      obtain ⟨cc, hcc⟩ : ∃ cc, cc = ps[k].2 := ⟨_, rfl⟩
      obtain ⟨tl, htl⟩ : ∃ tl, tl = (ps.drop (k + 1)).flatMap (·.1) := ⟨_, rfl⟩
      rw [← hpb] at hm hml hpk HL hlb
      rw [← hcc] at hpk HV
      rw [← htl] at HL hlb
      have HTL := Lib.hid htl
      rw [List.length_append] at hlb
      have hm4 : 4 ≤ pb.length := by omega
      have hle : 4 + 4 * m ≤ nb := by omega
      have HM : Hid (numb (((pb ++ tl).drop 2).take 2) = m) := Lib.hid (by
        rw [List.drop_append_of_le_length (by omega), List.take_append_of_le_length (by rw [List.length_drop]; omega)]
        exact hm)
      have C1 := Lib.hid (size_ok Ab nb cb m _ wr HL.out.1 HM.out hle)
      have hle2 := HL.out.1.le
      have R2 : Hid (RdS wr Ab (4 + 4 * m) cb pb) := Lib.hid (by
        have := HL.out.1.headR (4 + 4 * m) hle
        rw [hml, List.take_left] at this
        rw [hml]; exact this)
      have CP := Lib.hid (hpk Ab (4 + 4 * m) cb wr (HT.out.below HL.out.2.2.1 hw) (Nat.lt_of_lt_of_le hw HL.out.2.2.1.size) R2.out)
      have hD := Lib.hid (show (pb ++ tl).drop (4 + 4 * m) = tl by rw [hml]; exact List.drop_left)
      obtain ⟨S, hS⟩ : ∃ S, S = 4 + 4 * m := ⟨_, rfl⟩
      rw [← hS] at C1 CP hD hle
      have hkk : ¬ k = 8 := by omega
      have hnb : 0 < nb := by omega
      have hsz := HL.out.2.2.1.size
      have hlk : ((ps.take k).map (·.2)).length = k := by simp; omega
      have HLK := Lib.hid hlk
      clear hpb hcc htl hm hml hpk hS HM hfd R2 hlb hlk
      go_wp2_with (first
        | (go_at_call 36; ((with_reducible refine (Hid.out C1).mono ?_); rintro e wx ⟨rfl, rfl⟩))
        | (go_at_call 24; ((with_reducible refine (refuse_no _ _ _ ?_).mono ?_); (first | rfl | (simp; omega)); rintro e wx ⟨rfl, rfl⟩))
        | (go_at_call 37; ((with_reducible refine (Hid.out CP).mono ?_); rintro e w2 ⟨cs, rfl, hoc, hb2⟩; obtain ⟨B1, d1, B2, d2, B3, d3, B4, d4, B5, d5, hcs, hh⟩ := hoc; subst hcs; have O2 : Hid (OwnC w2 wr.heap.size _ cc) := Lib.hid ⟨B1, d1, B2, d2, B3, d3, B4, d4, B5, d5, rfl, hh⟩; have L2 := Lib.hid (HL.out.2.1.below hb2); have b2 := Lib.hid (HL.out.2.2.1.trans (hb2.mono hsz)); have r2 := Lib.hid (HL.out.1.below hb2); simp only [ctlC]; obtain ⟨css, l1, l2, l3⟩ := L2.out; rw [HLK.out] at l1; have X1 := Lib.hid l1; have X2 := Lib.hid l2; have X3 := Lib.hid l3; have hsz2 := b2.out.size; clear hh hb2 l1 l2 l3))
        | (at_builtin; refine wpList_appV rfl (.tmp 18) (.tmp 23) elCtl rfl w.heap.size (.slice A1 k c1) k css.flatten rfl (X1.out.alloc _) w2.heap.size rfl (ctlC cc.k cc.so cc.me cc.ti cc.st cc.pa cc.oc (.slice B1 cc.reps.length d1) (.slice B2 cc.nams.length d2) (.slice B3 cc.srcs.length d3) (.slice B4 cc.loss.length d4) (.slice B5 cc.firs.length d5) cc.ra) rfl (ctlC_one _ _ _ _ _ _ _ _ _ _ _ _ _ _ _ _ _ _ _ _ _ _ _) (BlkV.new w2 50 (ctlC cc.k cc.so cc.me cc.ti cc.st cc.pa cc.oc (.slice B1 cc.reps.length d1) (.slice B2 cc.nams.length d2) (.slice B3 cc.srcs.length d3) (.slice B4 cc.loss.length d4) (.slice B5 cc.firs.length d5) cc.ra)) (by omega) (by simp; omega) ?_; intro v3 w3 hown3 hg3 _; obtain ⟨A3, c3, hv3⟩ := own_formN hown3; subst hv3; have N3 := Lib.hid hown3; have G3 := Lib.hid hg3; have r3 := Lib.hid ((r2.out.below ((Below.refl _ _).alloc (Nat.le_refl _) _)).keep hg3 (fun p hp => HL.out.2.2.2.off (X1.out.lt p hp).1)); clear hown3 hg3)
        | ((with_reducible refine wpList_cut rfl 25 (.tmp 25) (.tmp 26) rfl undB szB Ab nb cb _ rfl S _ rfl rfl r3.out hle ?_); intro A5 hR5 hO5))
      rw [hD.out] at hR5
      go_roundw
      case rel =>
        refine ⟨k + 1, A5, nb - S, cb - S, A3, c3, by omega, rfl, rfl, Lib.hid ⟨by rw [← HTL.out]; exact hR5, ?_, ?_, HL.out.2.2.2.of_off hO5 (by omega)⟩⟩
        · rw [HV.out]
          have hX : ∀ (n : Nat), ((ps.take k).map (·.2)).length = n → w3.ownsRow w.heap.size 50 13 (.slice A3 (k + 1) c3) (n + 1) (css.flatten ++ (ctlC cc.k cc.so cc.me cc.ti cc.st cc.pa cc.oc (.slice B1 cc.reps.length d1) (.slice B2 cc.nams.length d2) (.slice B3 cc.srcs.length d3) (.slice B4 cc.loss.length d4) (.slice B5 cc.firs.length d5) cc.ra)) := fun n hn => by rw [HLK.out] at hn; subst hn; exact N3.out
          refine OwnCs.more (w := w2.alloc _) (by rw [HLK.out]; exact X1.out.alloc _) X2.out (fun i cs c hi hj => (X3.out i cs c hi hj).below ((Below.refl _ _).alloc (Nat.le_refl _) _)) ((O2.out.below ((Below.refl _ _).alloc (Nat.le_refl _) _)).mono hsz) (hX _ rfl) G3.out
        · exact (b2.out.alloc b2.out.size _).grown G3.out (by simp; omega) (fun p hp => (X1.out.lt p hp).1)
      case measure => simp [lenOf]; omega
    · obtain rfl : k = N := by omega
      rw [show ps.drop k = [] by rw [HN.out, List.drop_length], show ps.take k = ps by rw [HN.out, List.take_length]] at HL
      have hn0 : nb = 0 := by have := HL.out.1.len; simp at this; exact this.symm
      subst hn0
      go_wp2
      go_ret
      exact ⟨A1, c1, rfl, HL.out.2.1, HL.out.2.2.1⟩
end Go.Proofs.YtacaempcbdekaaaDoor
