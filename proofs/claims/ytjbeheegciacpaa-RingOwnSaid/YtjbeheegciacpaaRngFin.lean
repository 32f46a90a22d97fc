/- Package ring tells what the laws of layer 19 ask of it. No statement is proved here. -/
import Derived.Test.YtjbeheegciacpaaRngP6
import Derived.Test.YtjbeheegciacpaaRngP7
import Derived.Test.YtjbeheegciacpaaRngPl
import Derived.Test.YtjbeheegciacpaaRngOwn
import Derived.Test.YtjbeheegciacpaaRngLst
namespace Go.Proofs.Ytjbeheegciacpaa
open Go.RowKit
set_option linter.unusedVariables false

/-- A ring at a pointer, no more packets than room. -/
def RT19 (w : World) (v : Value) (s : Rgs) (F : Nat → Prop) : Prop := RT w v s F ∧ (s.L.length : Int) ≤ s.P
theorem rt19_at {w : World} {q : Addr} {s : Rgs} {F : Nat → Prop} (h : RT19 w (.pointer (some q)) s F) : ∃ g A c X, q = ⟨g, 0, none⟩ ∧ RAt w g s A c X F ∧ (s.L.length : Int) ≤ s.P := by
  obtain ⟨⟨g, A, c, X, e, h1⟩, h2⟩ := h
  injection e with e
  injection e with e
  exact ⟨g, A, c, X, e, h1, h2⟩
theorem RWay.stp {w w' : World} {g : Nat} {s : Rgs} {F : Nat → Prop} {L : List Pck} (h : RWay w g s.P s.B F L w') (hl : (L.length : Int) ≤ s.P) : Stp19 RT19 (.pointer (some ⟨g, 0, none⟩)) ⟨s.P, s.B, L⟩ F w w' := by
  obtain ⟨A, c, X, F', h1, h2, h3⟩ := h
  exact ⟨F', ⟨⟨g, A, c, X, rfl, h1⟩, hl⟩, h2, h3⟩
theorem tells19 : Tells19 RT19 where
  lone := ⟨fun w p s F h => rt_lone.low w p s F h.1, fun w w2 p s F h hz hk => ⟨rt_lone.stay w w2 p s F h.1 hz hk, h.2⟩⟩
  new_no := fun P B w h => new19_no P B w h
  new_ok := fun P B w h1 h2 h3 h4 => (new19_ok P B w h1 h2 h3 h4).mono fun e w' ⟨q, F, he, h⟩ => ⟨q, F, he, Lib.hid ⟨⟨h.out.1, by show ((0 : Nat) : Int) ≤ P; omega⟩, h.out.2⟩⟩
  put := fun w q s F i A n c b hT hs hP hB hr hoff hl hz hi => by
    obtain ⟨g, A', c', X, rfl, h, hlp⟩ := rt19_at hT
    by_cases ho : putE s.P s.B s.L i b = 0
    · rw [ho]
      refine (put19_ok w g s A' c' X F i A n c b h hs hr hlp ho hl hz).mono fun e w' ⟨h1, h2⟩ => ⟨h1, Lib.hid (h2.out.stp ?_)⟩
      unfold putG
      rw [if_pos ho]
      exact (fitL_room (by omega) hB _).1
    · refine (put19_no w g s A' c' X F i A n c b h hs hr hlp ho).mono fun e w' ⟨h1, h2⟩ => ⟨h1, Lib.hid ?_⟩
      unfold putG
      rw [if_neg ho]
      exact ⟨F, ⟨⟨g, A', c', X, rfl, h.below h2.out⟩, hlp⟩, .of_below h2.out, fun k hk => .inl hk⟩
  get_yes := fun w q s F i b hT hs hl hm => by
    obtain ⟨g, A', c', X, rfl, h, hlp⟩ := rt19_at hT
    exact get19_yes w g s A' c' X F i b h hs hm
  get_no := fun w q s F i hT hs hl hm => by
    obtain ⟨g, A', c', X, rfl, h, hlp⟩ := rt19_at hT
    exact get19_no w g s A' c' X F i h hs hm
  len := fun w q s F hT hl => by
    obtain ⟨g, A', c', X, rfl, h, hlp⟩ := rt19_at hT
    exact len19_any w g s A' c' X F h
  size := fun w q s F hT hl hz => by
    obtain ⟨g, A', c', X, rfl, h, hlp⟩ := rt19_at hT
    exact size19_any w g s A' c' X F h
  indices := fun w q s F hT hl => by
    obtain ⟨g, A', c', X, rfl, h, hlp⟩ := rt19_at hT
    exact ind19_any w g s A' c' X F h
  forget := fun w q s F i hT hs hl hi => by
    obtain ⟨g, A', c', X, rfl, h, hlp⟩ := rt19_at hT
    have e : s.L.length - (forG s.L i).length = lowL s.L i := by
      have := lowL_le i s.L
      rw [forG_drop, List.length_drop]
      omega
    rw [e]
    refine (forget19_any w g s A' c' X F i h hs).mono fun e w' ⟨h1, h2⟩ => ⟨h1, Lib.hid ?_⟩
    obtain ⟨A2, c2, X2, h3, h4⟩ := h2.out
    refine ⟨F, ⟨⟨g, A2, c2, X2, rfl, h3⟩, ?_⟩, h4, fun k hk => .inl hk⟩
    show ((forG s.L i).length : Int) ≤ s.P
    rw [forG_drop, List.length_drop]
    omega
  putNil := putNil19
  getNil := getNil19
  lenNil := lenNil19
  sizeNil := sizeNil19
  indicesNil := indicesNil19
  forgetNil := forgetNil19
end Go.Proofs.Ytjbeheegciacpaa
