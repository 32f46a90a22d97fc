/- Package losses does what the laws of layer 20 ask of it. No statement is proved here. -/
import Derived.Test.YtkmacpmdgbhhkaaLosP10
import Derived.Test.YtkmacpmdgbhhkaaLosP12
namespace Go.Proofs.Ytkmacpmdgbhhkaa
open Go.RowKit
set_option linter.unusedVariables false

theorem tells20 : Tells20 T20 where
  lone := lone20
  new := fun p w hp => new_any20 p w hp
  came := fun w q s F i tk h ok h1 _ hi ht => by
    obtain ⟨g, A, c, X, rfl, hk⟩ := h.at_
    exact came_any20 w g s A c X F i tk hk ok h1 hi ht
  missing := fun w q s F h ok => by
    obtain ⟨g, A, c, X, rfl, hk⟩ := h.at_
    exact missing_any20 w g s A c X F hk ok
  ask := fun w q s F tk h ok _ h2 ht => by
    obtain ⟨g, A, c, X, rfl, hk⟩ := h.at_
    exact ask_any20 w g s A c X F tk hk ok h2 ht
  report := fun S Fr0 Lo Hi J La De aE aR aH bE bR bH aV bV w h1 h2 h3 h4 => report_any20 S Fr0 Lo Hi J La De aE aR aH bE bR bH aV bV w h1 h2 h3 h4
  cameNil := fun w i tk => cameNil_any20 w i tk
  missingNil := missingNil_any20
  askNil := fun w tk => askNil_any20 w tk
end Go.Proofs.Ytkmacpmdgbhhkaa
