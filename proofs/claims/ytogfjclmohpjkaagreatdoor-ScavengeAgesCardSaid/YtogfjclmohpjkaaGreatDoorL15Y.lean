/- What has and leads answer; they only make memory. Conditions: the address is an object's. -/
import Derived.Test.YtogfjclmohpjkaaGreatDoorL15R
import Derived.Deep.RegionHeld3
import Derived.Shelf.Abstract
namespace Go.Proofs.YtogfjclmohpjkaaGreatDoor.L15
open Go.ChangeShapes Go.WideShapes Go.ChangeAt Go.RowKit Go.Shelf
open Go.Proofs.YtogfjclmohpjkaaGreatDoor.L1 (Sl Ar ptr exB)
open Go.Proofs.YtogfjclmohpjkaaGreatDoor.L4 (hdV riB wd)
open Go.Proofs.YtogfjclmohpjkaaGreatDoor.L5 (Cl clV rtB Tb clAt shX shR shD)
open Go.Proofs.YtogfjclmohpjkaaGreatDoor.L6 (Th th0 stV St fdT fdX obT obX slX slP slV gw)
open Go.Proofs.YtogfjclmohpjkaaGreatDoor.L2 (spV hasB)
set_option linter.unusedVariables false
set_option maxRecDepth 100000

abbrev Yg.v (y : Yg) : Value := .agg #[.int .i64 y.OF, .int .i64 y.OT, .int .i64 y.OE, .int .i64 y.EF, .int .i64 y.ET, .int .i64 y.EE, .int .i64 y.FF, .int .i64 y.FT, .int .i64 y.FE, .int .i64 y.TF, .int .i64 y.TT, .int .i64 y.TE, .int .i64 y.th]
abbrev Yg.cells (y : Yg) : List Value := [.int .i64 y.OF, .int .i64 y.OT, .int .i64 y.OE, .int .i64 y.EF, .int .i64 y.ET, .int .i64 y.EE, .int .i64 y.FF, .int .i64 y.FT, .int .i64 y.FE, .int .i64 y.TF, .int .i64 y.TT, .int .i64 y.TE, .int .i64 y.th]
/-- The cells of a Young. -/
abbrev YC (w : World) (b : Nat) (y : Yg) : Prop := w.cell? ⟨b, 0, none⟩ = some (.int .i64 y.OF) ∧ w.cell? ⟨b, 1, none⟩ = some (.int .i64 y.OT) ∧ w.cell? ⟨b, 2, none⟩ = some (.int .i64 y.OE) ∧ w.cell? ⟨b, 3, none⟩ = some (.int .i64 y.EF) ∧ w.cell? ⟨b, 4, none⟩ = some (.int .i64 y.ET) ∧ w.cell? ⟨b, 5, none⟩ = some (.int .i64 y.EE) ∧ w.cell? ⟨b, 6, none⟩ = some (.int .i64 y.FF) ∧ w.cell? ⟨b, 7, none⟩ = some (.int .i64 y.FT) ∧ w.cell? ⟨b, 8, none⟩ = some (.int .i64 y.FE) ∧ w.cell? ⟨b, 9, none⟩ = some (.int .i64 y.TF) ∧ w.cell? ⟨b, 10, none⟩ = some (.int .i64 y.TT) ∧ w.cell? ⟨b, 11, none⟩ = some (.int .i64 y.TE) ∧ w.cell? ⟨b, 12, none⟩ = some (.int .i64 y.th)
theorem _root_.Go.Proofs.YtogfjclmohpjkaaGreatDoor.Blk.yc {w : World} {b : Nat} {t : TypeId} {y : Yg} (h : Blk w b t y.cells) : YC w b y :=
  ⟨h.cell 0, h.cell 1, h.cell 2, h.cell 3, h.cell 4, h.cell 5, h.cell 6, h.cell 7, h.cell 8, h.cell 9, h.cell 10, h.cell 11, h.cell 12⟩
section
variable {w w' : World} {p tp : Option Addr} {g n : Nat} {xs : List Int} {cs : List Cl} {a : Int} {o : Ob} {y : Yg}
set_option maxHeartbeats 1000000 in
theorem has_any (y : Yg) (r : Int) (w : World) : Calls Tryz.prog 77 #[y.v, .int .i64 r] w fun e w' => e = .returned (.bool (y.isY r)) ∧ Grow w w' := by
  obtain ⟨b1, hb1⟩ : ∃ b, hasB y.EF y.ET y.EE r = b := ⟨_, rfl⟩
  obtain ⟨b2, hb2⟩ : ∃ b, hasB y.FF y.FT y.FE r = b := ⟨_, rfl⟩
  have HY := hide (show y.isY r = (b1 || b2) by unfold Yg.isY; rw [hb1, hb2])
  have H1 := hide hb1
  have H2 := hide hb2
  clear hb1 hb2
  obtain ⟨OF, OT, OE, EF, ET, EE, FF, FT, FE, TF, TT, TE, th⟩ := y
  dsimp only at H1 H2
  cases b1 with
  | true =>
    go_enter Tryz.func77, Tryz.ntmps77
    go_wp2_with fail
    refine (L2.has_is EF ET EE r _ H1.out).mono ?_
    rintro e w2 ⟨rfl, c2⟩
    go_wp2
    go_ret
    exact ⟨ret_bool HY.out.symm, (Grow.box _ _).trans c2⟩
  | false =>
    have hb := Blk.new w 36 (Yg.cells ⟨OF, OT, OE, EF, ET, EE, FF, FT, FE, TF, TT, TE, th⟩)
    go_enter Tryz.func77, Tryz.ntmps77
    go_wp2_with fail
    refine (L2.has_is EF ET EE r _ H1.out).mono ?_
    rintro e w2 ⟨rfl, c2⟩
    replace hb := hb.chg c2 id
    have HC := hide ((Grow.box w (.cells (Yg.cells ⟨OF, OT, OE, EF, ET, EE, FF, FT, FE, TF, TT, TE, th⟩).toArray 36)).trans c2)
    clear c2
    generalize w.heap.size = b at *
    obtain ⟨-, -, -, -, -, -, x6, x7, x8, -⟩ := hb.yc
    clear hb
    dsimp only at x6 x7 x8
    go_wp2_with fail
    refine (L2.has_is FF FT FE r _ H2.out).mono ?_
    rintro e w3 ⟨rfl, c3⟩
    go_wp2
    go_ret
    exact ⟨ret_bool HY.out.symm, HC.out.trans c3⟩
theorem eg_has : ∀ args w, (callFunc 77 args).run Tryz.prog w = .ok (.enter 77 args) w := enters_of Tryz.func77 (by kernel_rfl) rfl
/-- Has an object a reference to a young one? -/
def Yg.ld (y : Yg) (o : Ob) : Bool := o.rs.any y.isY
set_option maxHeartbeats 1000000 in
theorem leads_any (h : St w p tp g xs cs) (ho : ObAt xs cs a o) (y : Yg) :
    Calls Tryz.prog 76 #[y.v, stV p tp, .int .i64 a] w fun e w' => e = .returned (.bool (y.ld o)) ∧ Grow w w' := by
  have HR := hide (fun W (c : Grow w W) => refs_any (h.grow c) ho)
  have HL := hide (show o.rs.length < 1000000 by
    have := (ho.ok.bd h.rt).2.1
    unfold Ob.sz at this
    omega)
  have HCON := hide (fun W a n c (hr : L1.Rd W a n o.rs) (hn : n < 1000000) => mcon_any (c := c) (p := y.isY) eg_has hr hn (fun W x _ _ => has_any y x W))
  obtain ⟨hy, hs, cc, fy, fs, nys⟩ := boxes2 w 36 y.cells 32 [.pointer p, .pointer tp]
  obtain ⟨OF, OT, OE, EF, ET, EE, FF, FT, FE, TF, TT, TE, th⟩ := y
  have HK := hide (fun W (c : Grow ((w.alloc (.cells (Yg.cells ⟨OF, OT, OE, EF, ET, EE, FF, FT, FE, TF, TT, TE, th⟩).toArray 36)).alloc (.cells [.pointer p, .pointer tp].toArray 32)) W) => And.intro (hy.chg c id).yc (hs.chg c id).cell2)
  have HC := hide cc
  clear hy hs cc fy fs nys
  dsimp only [Yg.cells, YC] at HK HC
  go_enter Tryz.func76, Tryz.ntmps76
  go_wp2_with fail
  generalize (w.alloc (.cells #[.int .i64 OF, .int .i64 OT, .int .i64 OE, .int .i64 EF, .int .i64 ET, .int .i64 EE, .int .i64 FF, .int .i64 FT, .int .i64 FE, .int .i64 TF, .int .i64 TT, .int .i64 TE, .int .i64 th] 36)).alloc (.cells #[.pointer p, .pointer tp] 32) = w3 at *
  generalize w.heap.size + 1 = s at *
  generalize w.heap.size = b at *
  have hk := HK.out w3 (Chg.refl _ _)
  go_region_held3 (fun W => (W.cell? ⟨b, 0, none⟩ = some (.int .i64 OF) ∧ W.cell? ⟨b, 1, none⟩ = some (.int .i64 OT) ∧ W.cell? ⟨b, 2, none⟩ = some (.int .i64 OE) ∧ W.cell? ⟨b, 3, none⟩ = some (.int .i64 EF) ∧ W.cell? ⟨b, 4, none⟩ = some (.int .i64 ET) ∧ W.cell? ⟨b, 5, none⟩ = some (.int .i64 EE) ∧ W.cell? ⟨b, 6, none⟩ = some (.int .i64 FF) ∧ W.cell? ⟨b, 7, none⟩ = some (.int .i64 FT) ∧ W.cell? ⟨b, 8, none⟩ = some (.int .i64 FE) ∧ W.cell? ⟨b, 9, none⟩ = some (.int .i64 TF) ∧ W.cell? ⟨b, 10, none⟩ = some (.int .i64 TT) ∧ W.cell? ⟨b, 11, none⟩ = some (.int .i64 TE) ∧ W.cell? ⟨b, 12, none⟩ = some (.int .i64 th)) ∧ W.cell? ⟨s, 0, none⟩ = some (.pointer p) ∧ W.cell? ⟨s, 1, none⟩ = some (.pointer tp)) (first | exact hk | exact HK.out _ (Chg.trans (Chg.drew (Chg.refl _ _)) c4) | exact HK.out _ (Chg.trans (Chg.drew (Chg.refl _ _)) (c4.trans c5)) | go_keep)
    (first
      | (go_at_call 106; refine (HR.out _ (HC.out.trans ((Chg.refl _ w3).drew))).mono ?_; rintro e w4 ⟨z, rfl, hz, hzb, c4⟩)
      | (go_at_call 105; refine (HCON.out _ _ _ _ (L1.Rd.of_blk hz rfl) HL.out).mono ?_; rintro e w5 ⟨rfl, c5⟩))
  all_goals (
    have HF := hide (HC.out.drew.trans (c4.trans c5))
    clear hz hzb c4 c5 hk
    go_wp2
    go_ret
    exact ⟨ret_bool rfl, HF.out⟩)
end
end Go.Proofs.YtogfjclmohpjkaaGreatDoor.L15
