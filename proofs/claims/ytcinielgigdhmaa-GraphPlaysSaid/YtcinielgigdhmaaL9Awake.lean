/- That the program is awake. Conditions: none. -/
import Derived.Test.YtcinielgigdhmaaL9Any
namespace Go.Proofs.Ytcinielgigdhmaa.L9
open Go.ChangeShapes Go.WideShapes Go.ChangeAt Go.RowKit
open Go.Proofs.Ytcinielgigdhmaa.L5 (Cl clV rtB Tb clAt shX shR shD woV hoB IsCls newX isRf)
set_option linter.unusedVariables false
def aC : List Cl := [⟨4, 1, 2, false⟩]
def aN (i r : Int) : Nd := ⟨i, 1, [r], [0, 0], false⟩
set_option maxRecDepth 100000 in
set_option maxHeartbeats 2000000 in
theorem awake_any (w : World) :
    Calls Try.prog 9 #[] w fun e w' => e = .returned (.bool true) ∧ Grow w w' := by
  have hl := Blk.new w 67 [.int .i64 4, .int .i64 1, .int .i64 2, .bool false]
  have cw := Grow.box w (.cells [.int .i64 4, .int .i64 1, .int .i64 2, .bool false].toArray 67)
  have HI := hide (L5.IsCls.one (c := ⟨4, 1, 2, false⟩) hl (by decide))
  clear hl
  go_enter Try.func9, Try.ntmps9
  go_wp2_with fail
  refine (L5.new_yes _ HI.out (by decide) (by decide)).mono ?_
  rintro e w1 ⟨g, v, rfl, ht, c1⟩
  replace cw := cw.trans c1
  have hg : g < w1.heap.size := by
    rcases ht.2 with ⟨h, _⟩ | ⟨g', e, _, hb⟩
    · cases h
    · injection e with e; injection e with e; subst e; exact hb.lt
  have hv : ∀ k, v.ownBlock = some k → k < w1.heap.size := fun k hk => (ht.1.lt k hk).2
  have HT := hide (And.intro ht (And.intro hg hv))
  have hsz : w.heap.size ≤ w1.heap.size := cw.size
  clear ht HI c1 hg hv
  go_wp2_with fail
  refine (new_gs HT.out.1 HT.out.2 (Nat.le_refl _) (by decide) (by decide)).mono ?_
  rintro e w2 ⟨p, S, rfl, g2, hG, hS⟩
  have cc : Chg (fun k => w.heap.size ≤ k) w w2 := (cw.trans g2).mono fun _ _ h => h.elim
  clear g2 cw hS HT
  have HG := hide hG
  have hzs : ∀ k, S k → w.heap.size ≤ k := fun k hk => Nat.le_trans hsz (hG.s hk).1
  clear hG
  go_wp2_with fail
  refine (add_gs HG.out (by decide) (show (Lit.int .i64 1).wf = true by decide) 1 0).mono ?_
  rintro e w3 ⟨rfl, c3, S3, h3, hs3⟩
  rw [show adX [⟨4, 1, 2, false⟩] [] 1 1 0 = 0 by decide]
  rw [show adL [⟨4, 1, 2, false⟩] [] 1 1 0 = [aN 1 0] by rfl] at h3
  replace cc := cc.step c3 fun i hi h => hzs i h
  clear c3 HG hs3 hzs
  have HG := hide h3
  have hzs : ∀ k, S3 k → w.heap.size ≤ k := fun k hk => Nat.le_trans hsz (h3.s hk).1
  clear h3
  go_wp2_with fail
  refine (add_gs HG.out (by decide) (show (Lit.int .i64 2).wf = true by decide) 1 0).mono ?_
  rintro e w4 ⟨rfl, c4, S4, h4, hs4⟩
  rw [show adX [⟨4, 1, 2, false⟩] [aN 1 0] 2 1 0 = 0 by decide]
  rw [show adL [⟨4, 1, 2, false⟩] [aN 1 0] 2 1 0 = [aN 1 0, aN 2 0] by rfl] at h4
  replace cc := cc.step c4 fun i hi h => hzs i h
  clear c4 HG hs4 hzs
  have HG := hide h4
  have hzs : ∀ k, S4 k → w.heap.size ≤ k := fun k hk => Nat.le_trans hsz (h4.s hk).1
  clear h4
  go_wp2_with fail
  refine (setref_gs HG.out (show (Lit.int .i64 1).wf = true by decide) (show (Lit.int .i64 0).wf = true by decide) (show (Lit.int .i64 2).wf = true by decide)).mono ?_
  rintro e w5 ⟨rfl, c5, h5⟩
  rw [show srX [aN 1 0, aN 2 0] 1 0 2 = 0 by decide]
  rw [show srL [aN 1 0, aN 2 0] 1 0 2 = [aN 1 2, aN 2 0] by rfl] at h5
  replace cc := cc.step c5 fun i hi h => hzs i h
  clear c5 HG hzs
  have HG := hide h5
  clear h5
  go_wp2_with fail
  refine (aim_gs HG.out (show (Lit.int .i64 1).wf = true by decide)).mono ?_
  rintro e w6 ⟨rfl, c6⟩
  rw [show aimX [⟨4, 1, 2, false⟩] [aN 1 2, aN 2 0] 1 = (2, 4) by rfl]
  replace cc := cc.step c6 fun _ _ h => h.elim
  have HG := hide (HG.out.grow c6)
  clear c6
  dsimp only
  go_wp2_with fail
  refine (holds_gs HG.out (show (Lit.int .i64 1).wf = true by decide)).mono ?_
  rw [show hldX [⟨4, 1, 2, false⟩] [aN 1 2, aN 2 0] 1 = [] by rfl]
  rintro e w7 ⟨ha, hc, rfl, -, c7⟩
  replace cc := cc.step c7 fun _ _ h => h.elim
  have HG := hide (HG.out.grow c7)
  clear c7
  go_wp2_with fail
  refine (words_gs HG.out (by decide)).mono ?_
  rw [show wos [aN 1 2, aN 2 0] = 10 by rfl]
  rintro e w8 ⟨rfl, c8⟩
  replace cc := cc.step c8 fun _ _ h => h.elim
  go_wp2
  go_ret
  exact ⟨rfl, cc.mono fun i hi h => by omega⟩
end Go.Proofs.Ytcinielgigdhmaa.L9
