/- What closed answers; it only makes memory. Conditions: at most 100000 objects, and roots. -/
import Derived.Laws.EntriesVeiled
import Derived.Test.YtogfjclmohpjkaaGreatDoorL15C
namespace Go.Proofs.YtogfjclmohpjkaaGreatDoor.L15
open Go.ChangeShapes Go.WideShapes Go.ChangeAt Go.RowKit Go.Shelf
open Go.Proofs.YtogfjclmohpjkaaGreatDoor.L1 (Sl Ar ptr exB)
open Go.Proofs.YtogfjclmohpjkaaGreatDoor.L4 (hdV riB wd)
open Go.Proofs.YtogfjclmohpjkaaGreatDoor.L5 (Cl clV rtB Tb clAt shX shR shD)
open Go.Proofs.YtogfjclmohpjkaaGreatDoor.L6 (Th th0 stV St fdT fdX obT obX slX slP slV gw Wk)
set_option linter.unusedVariables false
set_option maxRecDepth 100000
theorem eg_stray : ∀ args w, (callFunc 102 args).run Tryz.prog w = .ok (.enter 102 args) w := enters_of Tryz.func102 (by kernel_rfl) rfl
theorem eg_strays : ∀ args w, (callFunc 104 args).run Tryz.prog w = .ok (.enter 104 args) w := enters_of Tryz.func104 (by kernel_rfl) rfl
/-- The known ones, sorted, in their variable. -/
structure Kn (w : World) (q b : Nat) (zs : List Int) : Prop where
  ex : ∃ v ss, w.cell? ⟨q, 0, none⟩ = some v ∧ OL w b v ss ∧ Srd ss zs
  n : zs.length ≤ 100000
section
variable {w w' W : World} {p tp a ra : Option Addr} {g n m c b q rn rc : Nat} {xs zs ss rs : List Int} {v : Value} {x at_ : Int} {cs : List Cl} {o : Ob} {ob : Int → Ob}
theorem Kn.grow (h : Kn w q b zs) (c : Grow w w') : Kn w' q b zs := by
  obtain ⟨v, ss, h1, h2, h3⟩ := h.ex
  exact ⟨⟨v, ss, c.cell h1, own_grow h2 c, h3⟩, h.n⟩
theorem Kn.stray (h : Kn w q b zs) (x : Int) : Calls Tryz.prog 102 #[.int .i64 x, .pointer (some ⟨q, 0, none⟩)] w fun e w' => e = .returned (.bool (sy zs x)) ∧ Grow w w' := by
  obtain ⟨v, ss, h1, h2, h3⟩ := h.ex
  exact stray_any h1 h2 h3 (by rw [h3.n]; have := h.n; omega) x
theorem Kn.con (h : Kn w q b zs) (hr : L1.Rd w a n rs) (hn : n < 1000000) : Calls Tryz.prog 105 #[.slice a n c, .func (.func 102) #[] #[.pointer (some ⟨q, 0, none⟩)]] w fun e w' => e = .returned (.bool (rs.any (sy zs))) ∧ Grow w w' :=
  con_any (c := c) (p := sy zs) (lb := #[.pointer (some ⟨q, 0, none⟩)]) eg_stray hr hn (fun W x _ gW => (h.grow gW).stray x)
set_option maxHeartbeats 1000000 in
theorem strays_any {s f : Nat} (h : St w p tp g xs cs) (ho : ObAt xs cs at_ o) (hk : Kn w q b zs) (h0 : w.cell? ⟨s, 0, none⟩ = some (.pointer p)) (h1 : w.cell? ⟨s, 1, none⟩ = some (.pointer tp))
    (hf : w.cell? ⟨f, 0, none⟩ = some (.func (.func 102) #[] #[.pointer (some ⟨q, 0, none⟩)])) :
    Calls Tryz.prog 104 #[.int .i64 at_, .pointer (some ⟨s, 0, none⟩), .pointer (some ⟨f, 0, none⟩)] w fun e w' => e = .returned (.bool (o.rs.any (sy zs))) ∧ Grow w w' := by
  have HR := hide (fun W (c : Grow w W) => refs_any (h.grow c) ho)
  have HL := hide (show o.rs.length < 1000000 by
    have := (ho.ok.bd h.rt).2.1
    unfold Ob.sz at this
    omega)
  have HCON := hide (fun W (gW : Grow w W) a n c (hr : L1.Rd W a n o.rs) (hn : n < 1000000) => (hk.grow gW).con (c := c) hr hn)
  have HK := hide (fun W (c : Grow w W) => And.intro (c.cell h0) (And.intro (c.cell h1) (c.cell hf)))
  clear h ho hk
  have hk := And.intro h0 (And.intro h1 hf)
  clear h0 h1 hf
  go_enter Tryz.func104, Tryz.ntmps104
  go_wp2_with fail
  go_region_held3 (fun W => W.cell? ⟨s, 0, none⟩ = some (.pointer p) ∧ W.cell? ⟨s, 1, none⟩ = some (.pointer tp) ∧ W.cell? ⟨f, 0, none⟩ = some (.func (.func 102) #[] #[.pointer (some ⟨q, 0, none⟩)])) (first | exact hk | exact HK.out _ (Chg.trans (Chg.drew (Chg.refl _ _)) c4) | exact HK.out _ (Chg.trans (Chg.drew (Chg.refl _ _)) (c4.trans c5)) | go_keep)
    (first
      | (go_at_call 106; refine (HR.out _ ((Chg.refl _ w).drew)).mono ?_; rintro e w4 ⟨z, rfl, hz, hzb, c4⟩)
      | (go_at_call 105; refine (HCON.out _ (((Chg.refl _ w).drew).trans c4) _ _ _ (L1.Rd.of_blk hz rfl) HL.out).mono ?_; rintro e w5 ⟨rfl, c5⟩))
  all_goals (
    have HF := hide ((((Chg.refl (fun _ => False) w).drew).trans c4).trans c5)
    clear hz hzb c4 c5 hk
    go_wp2
    go_ret
    exact ⟨rfl, HF.out⟩)
/-- Do all lead to one of these, or nowhere? -/
def cloB (ob : Int → Ob) (zs rs : List Int) : Bool := !(rs.any (sy zs)) && !(zs.any fun x => (ob x).rs.any (sy zs))
set_option maxHeartbeats 1000000 in
theorem closed_any (h : St w p tp g xs cs) (hO : L1.Rd w a m zs) (hm : m ≤ 100000) (hat : ∀ x ∈ zs, ObAt xs cs x (ob x)) (hZ : L1.Rd w ra rn rs) (hn : rn < 1000000) :
    Calls Tryz.prog 74 #[stV p tp, .slice a m c, .slice ra rn rc] w fun e w' => e = .returned (.bool (cloB ob zs rs)) ∧ Grow w w' := by
  have H := hide h
  have HO := hide hO
  have HZ := hide hZ
  have HM := hide (And.intro hm hn)
  have HAT := hide hat
  have HLM := hide hO.1
  clear h hO hZ hm hn hat
  obtain ⟨hs, cc, fs⟩ := boxes1 w 32 [.pointer p, .pointer tp]
  go_enter Tryz.func74, Tryz.ntmps74
  go_wp2_with fail
  generalize w.alloc (.cells #[.pointer p, .pointer tp] 32) = w3 at *
  generalize w.heap.size = s at *
  refine (vals_in a m c w3).mono ?_
  rintro e w' ⟨rfl, rfl⟩
  go_wp2_with fail
  refine (sorted_any (HO.out.grow cc) (by have := HM.out.1; omega)).mono ?_
  rintro e w5 ⟨v, ss, rfl, hol, hsr, c5⟩
  replace cc := (cc.alloc (.cells #[.slice a m c] 37)).trans c5
  replace hs := (hs.alloc (.cells #[.slice a m c] 37)).chg c5 id
  have HB := hide (show w3.heap.size ≤ w5.heap.size from Nat.le_trans (by rw [World.size_alloc]; omega) c5.size)
  clear c5
  obtain ⟨va, vc, hva⟩ := own_len hol
  subst hva
  have hb := Blk.new w5 37 [.slice va ss.length vc]
  have hol6 := hol.alloc (.cells [.slice va ss.length vc].toArray 37)
  replace hs := hs.alloc (.cells [.slice va ss.length vc].toArray 37)
  replace cc := cc.alloc (.cells [.slice va ss.length vc].toArray 37)
  have hkn : Kn (w5.alloc (.cells [.slice va ss.length vc].toArray 37)) w5.heap.size w3.heap.size zs := ⟨⟨_, ss, hb.cell 0, hol6, hsr⟩, by have := HM.out.1; have := HLM.out; omega⟩
  have HKN := hide hkn
  have hq6 : (w5.alloc (.cells [.slice va ss.length vc].toArray 37)).heap.size = w5.heap.size + 1 := World.size_alloc _ _
  clear hb hol hol6 hkn hsr
  go_wp2_with fail
  generalize w5.alloc (.cells #[.slice va ss.length vc] 37) = w6 at *
  generalize w5.heap.size = q at *
  have hf := Blk.new w6 44 [.func (.func 102) #[] #[.pointer (some ⟨q, 0, none⟩)]]
  rw [hq6] at hf
  have g7 := Grow.box w6 (.cells [.func (.func 102) #[] #[.pointer (some ⟨q, 0, none⟩)]].toArray 44)
  replace hs := hs.chg g7 id
  replace cc := cc.trans g7
  have HK7 := hide (HKN.out.grow g7)
  clear hq6 g7 HKN HB
  generalize w6.alloc (.cells #[.func (.func 102) #[] #[.pointer (some ⟨q, 0, none⟩)]] 44) = w7 at *
  have HF := hide (hf.cell 0)
  have HS := hide hs.cell2
  have HC := hide cc
  have HE := hide (show cloB ob zs rs = (!(rs.any (sy zs)) && !(zs.any fun x => (ob x).rs.any (sy zs))) from rfl)
  have HC1 := hide (HK7.out.con (c := rc) (HZ.out.grow cc) HM.out.2)
  clear hf hs cc
  cases hb1 : rs.any (sy zs) with
  | true =>
    rw [hb1] at HC1 HE
    refine HC1.out.mono ?_
    rintro e w8 ⟨rfl, c8⟩
    go_wp2
    go_ret
    exact ⟨ret_bool (by rw [HE.out]; rfl), HC.out.trans c8⟩
  | false =>
    rw [hb1] at HC1 HE
    refine HC1.out.mono ?_
    rintro e w8 ⟨rfl, c8⟩
    have HC2 := hide (con_any (c := c) (p := fun x => (ob x).rs.any (sy zs)) (lb := #[.pointer (some ⟨s, 0, none⟩), .pointer (some ⟨q + 1, 0, none⟩)]) (w := w8) eg_strays (HO.out.grow (HC.out.trans c8)) (by have := HM.out.1; omega)
      (fun W x hx gW => strays_any (H.out.grow (HC.out.trans (c8.trans gW))) (HAT.out x hx) (HK7.out.grow (c8.trans gW)) (Grow.cell (c8.trans gW) HS.out.1) (Grow.cell (c8.trans gW) HS.out.2) (Grow.cell (c8.trans gW) HF.out)))
    generalize (zs.any fun x => (ob x).rs.any (sy zs)) = b2 at *
    have HC8 := hide (HC.out.trans c8)
    clear c8
    go_wp2_with fail
    refine HC2.out.mono ?_
    rintro e w9 ⟨rfl, c9⟩
    go_wp2
    go_ret
    exact ⟨ret_bool (by rw [HE.out]; simp), HC8.out.trans c9⟩
end
end Go.Proofs.YtogfjclmohpjkaaGreatDoor.L15
