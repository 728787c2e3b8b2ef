/- 'awake' of the laws of package card answers true. Conditions: the table of TrailingZeros64 is as the program's text lays it. -/
import Derived.Test.YtbigdgabjjpffaaDoorL7Tb
namespace Go.Proofs.YtbigdgabjjpffaaDoor.L7
open Go.ChangeShapes Go.WideShapes Go.ChangeAt Go.RowKit
open Go.Proofs.YtbigdgabjjpffaaDoor.L3
set_option linter.unusedVariables false

set_option maxHeartbeats 1000000 in
theorem awake_any (w : World) (ht : Tab w) : Calls Tryd.prog 9 #[] w fun e w' => e = .returned (.bool true) ∧ Grow w w' := by
  have HT := hide ht
  clear ht
  go_enter Tryd.func9, Tryd.ntmps9
  go_wp2_with fail
  refine (tb_new 10 50 _ (F := 10) (T := 50) (by decide) (by decide)).mono ?_
  rintro e w1 ⟨p, m, g, rfl, h, hp, hm, hg, cc⟩
  have HG := hide hg
  clear hp hm hg
  go_wp2_with fail
  refine (tb_touch h 30 (c := true) (T := upd no 1 true) (by decide) rfl).mono ?_
  rintro e w2 ⟨rfl, h2, c2⟩
  replace h := h2
  replace cc := cc.new HG.out c2
  clear h2 c2
  go_wp2_with fail
  refine (tb_dirty h 26 (c := true) (by decide)).mono ?_
  rintro e w3 ⟨rfl, c3⟩
  replace h := h.grow c3
  replace cc := cc.trans c3
  clear c3
  go_wp2_with fail
  refine (tb_take1 h (HT.out.chg cc id) (j := 1) (by decide) (by decide) (by decide) (x := 26) (y := 42) (by decide) (by decide)).mono ?_
  rintro e w4 ⟨rfl, h4, c4⟩
  replace h := h4
  replace cc := cc.new HG.out c4
  clear h4 c4
  go_wp2_with fail
  refine (tb_dirty h 30 (c := false) (by decide)).mono ?_
  rintro e w5 ⟨rfl, c5⟩
  replace cc := cc.trans c5
  clear c5 h
  go_wp2
  go_ret
  exact ⟨rfl, cc⟩
end Go.Proofs.YtbigdgabjjpffaaDoor.L7
