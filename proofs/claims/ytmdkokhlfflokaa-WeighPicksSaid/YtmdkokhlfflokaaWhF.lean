/- Package weigh answers as the document says. -/
import Derived.Test.YtmdkokhlfflokaaWhE
namespace Go.Proofs.Ytmdkokhlfflokaa
open Go.ChangeShapes Go.WideShapes Go.ChangeAt Go.RowKit
open Gen
theorem weighOk : WeighOk where
  less x y w hx hy := (wLess_any x y w hx hy).mono (by rintro e w' ⟨rfl, rfl⟩; exact ⟨rfl, Below.refl _ _⟩)
  least a n c zs w S hz hn _ _ _ := wLeast_any a n c zs w S hz hn
  picks a n c ws m w S hz hn _ _ _ := wPicks_any a n c ws m w S hz hn
  shares a n c ps m w S hn _ _ _ := wShares_any a n c ps m w S hn
  acts a n c ps w S hn _ _ _ := wActs_any a n c ps w S hn
end Go.Proofs.Ytmdkokhlfflokaa
