/- What slices.Clone of numbers, after and record answer and do. Conditions: the card table lies apart from the words and the classes. -/
import Derived.Lib.SliceRun
import Derived.Test.YtogfjclmohpjkaaGreatDoorL15T
namespace Go.Proofs.YtogfjclmohpjkaaGreatDoor.L15
open Go.ChangeShapes Go.WideShapes Go.ChangeAt Go.RowKit Go.Shelf
open Go.Proofs.YtogfjclmohpjkaaGreatDoor.L1 (Sl Ar ptr exB)
open Go.Proofs.YtogfjclmohpjkaaGreatDoor.L5 (Cl clV rtB Tb clAt shX shR shD)
open Go.Proofs.YtogfjclmohpjkaaGreatDoor.L6 (Th th0 stV St fdT fdX obT obX slX slP slV gw Wk)
open Go.Proofs.YtogfjclmohpjkaaGreatDoor.L2 (spV riB orZ hasB)
open Go.Proofs.YtogfjclmohpjkaaGreatDoor.L7 (Ct isd isnew tset tb_touch tb_wipe)
open Go.Proofs.YtogfjclmohpjkaaGreatDoor.L3 (no)
set_option linter.unusedVariables false
set_option maxRecDepth 100000
section
variable {w : World} {a a2 : Option Addr} {n n2 c c2 g : Nat} {xs ys : List Int}
set_option maxHeartbeats 1000000 in
theorem clone_any (h : L1.Rd w a n xs) (hn : n ≤ 10000000) :
    Calls Tryz.prog 40 #[.slice a n c] w fun e w' => ∃ v, e = .returned v ∧ OL w' w.heap.size v xs ∧ Grow w w' := by
  have q : ∀ (w : World) (a : Option Addr) (n c n' c' : Nat), (binOp .eql 37 (.slice a n c) (.slice none n' c')).run Tryz.prog w = .ok (.bool a.isNone) w := fun w a n c n' c' => Lib.run_eql_slice_nil w _ _ a n c n' c' Tryz.underlying37
  cases a with
  | none =>
    have h0 : n = 0 := by
      rcases Nat.eq_zero_or_pos n with h0 | h0
      · exact h0
      · obtain ⟨x, e, _⟩ := h.2 h0
        exact absurd e (by simp)
    subst h0
    have hxs : xs = [] := List.eq_nil_of_length_eq_zero h.1
    subst hxs
    clear h
    go_enter Tryz.func40, Tryz.ntmps40
    go_wp2
    go_ret
    exact ⟨_, rfl, ol_nil _ _, Chg.refl _ _⟩
  | some x =>
    obtain ⟨v', W', hr, ho, cg, -⟩ := app_more (c0 := c) (Grow.box w (.cells (ints []).toArray 3)) (OL.lit w [] (by simp)) (h.grow (Grow.box w (.cells (ints []).toArray 3))) (by simp; omega)
    have KA := hide hr
    have HO := hide ho
    have HC := hide cg
    clear h hr ho cg
    go_enter Tryz.func40, Tryz.ntmps40
    go_wp2_with (at_builtin; refine wpList_app rfl _ _ 37 rfl (.slice (some ⟨w.heap.size, 0, none⟩) 0 0) (.slice (some x) n c) v' _ W' rfl rfl KA.out ?_)
    go_ret
    exact ⟨_, rfl, HO.out, HC.out⟩
end
/-- The dirty cards behind it: those of these objects that have references to young ones. -/
def recS (y : Yg) (ob : Int → Ob) (f t : Nat) (L : List Int) : Nat → Bool := L.foldl (fun S x => if y.ld (ob x) then tset S f t x else S) no
theorem recS_snoc (y : Yg) (ob : Int → Ob) (f t : Nat) (L : List Int) (x : Int) : recS y ob f t (L ++ [x]) = if y.ld (ob x) then tset (recS y ob f t L) f t x else recS y ob f t L := by
  simp [recS, List.foldl_append]
section
variable {w w' W : World} {tp : Option Addr} {g n b z pc mc gc f t : Nat} {xs : List Int} {y : Yg} {cs : List Cl} {ob : Int → Ob} {L : List Int} {S : Nat → Bool} {S' : Nat → Prop} {ys : List Int}
theorem Low.put2 (h : Low w z b tp g xs cs) (hs : St w' (some ⟨b, 0, none⟩) tp g ys cs) (c : Chg S' w w') (hS : ∀ i, S' i → i = g ∨ z ≤ i) : Low w' z b tp g ys cs := by
  obtain ⟨base, v, ht, h1, h2, h3, h4⟩ := h.tb
  exact ⟨hs, h.bz, h.gz, base, v, tb_keep ht c (fun k e hk => (hS k hk).elim (fun e2 => h1 (by rw [e, e2])) (fun e2 => by have := h3 k e; omega)) (fun k e hk => (hS k hk).elim (fun e2 => h2 (by rw [e, e2])) (fun e2 => by have := h4 k e; omega)), h1, h2, h3, h4⟩
set_option maxHeartbeats 4000000 in
theorem record_any (h : Low w z b tp g xs cs) (hc : Ct w pc mc gc f t S) (hz : z ≤ gc) (hw : Seg xs cs ob y.OF L y.OT) (hy : riB y.OF y.OT y.OE = true) :
    Calls Tryz.prog 44 #[y.v, stV (some ⟨b, 0, none⟩) tp, ptr pc] w fun e w' => e = .returned (.tuple #[]) ∧ Low w' z b tp g xs cs ∧ Ct w' pc mc gc f t (recS y ob f t L) ∧ Chg (· = gc) w w' := by
  have hrt := h.st.rt
  have hat := fun x (hx : x ∈ L) => hw.at_ hx
  have hwk := hw.wk hrt
  have hll : L.length ≤ 4096 := wk_len4 hrt h.st.n hwk
  have hfo : ¬ w.heap.size = gc ∧ ¬ w.heap.size + 1 = gc := by have := hc.glt; exact ⟨by omega, by omega⟩
  have H64 := hide (show ∀ s ∈ [(⟨y.OF, y.OT, y.OE⟩ : Sp)], s.F ≤ 9223372036854775807 ∧ s.T ≤ 9223372036854775807 from by
    have := L2.ri_true hy
    intro s hs
    rw [List.mem_singleton.1 hs]
    dsimp only
    omega)
  have HWK := hide (show Wks xs cs [(⟨y.OF, y.OT, y.OE⟩ : Sp)] L 0 from ⟨L, 0, hwk, .inr ⟨rfl, [], ⟨rfl, rfl⟩, by simp⟩⟩)
  have HAT := hide hat
  have HLL := hide hll
  have H := hide h
  have HCT := hide hc
  have HZ := hide hz
  have HREC := hide (show recS y ob f t [] = no from rfl)
  obtain ⟨hyy, hs, cc, -, -, -⟩ := boxes2 w 36 y.cells 32 [.pointer (some ⟨b, 0, none⟩), .pointer tp]
  clear h hc hz hw hy hrt hat hwk hll
  obtain ⟨hf1, hf2⟩ := hfo
  have HYV := hide (show y.v = .agg #[.int .i64 y.OF, .int .i64 y.OT, .int .i64 y.OE, .int .i64 y.EF, .int .i64 y.ET, .int .i64 y.EE, .int .i64 y.FF, .int .i64 y.FT, .int .i64 y.FE, .int .i64 y.TF, .int .i64 y.TT, .int .i64 y.TE, .int .i64 y.th] from rfl)
  go_enter Tryz.func44, Tryz.ntmps44
  go_wp2_with fail
  generalize (w.alloc (.cells #[.int .i64 y.OF, .int .i64 y.OT, .int .i64 y.OE, .int .i64 y.EF, .int .i64 y.ET, .int .i64 y.EE, .int .i64 y.FF, .int .i64 y.FT, .int .i64 y.FE, .int .i64 y.TF, .int .i64 y.TT, .int .i64 y.TE, .int .i64 y.th] 36)).alloc (.cells #[.pointer (some ⟨b, 0, none⟩), .pointer tp] 32) = w3 at *
  generalize w.heap.size + 1 = s at *
  generalize w.heap.size = yb at *
  refine (tb_wipe (HCT.out.grow cc)).mono ?_
  rintro e w4 ⟨rfl, hct4, c4⟩
  replace hyy := hyy.chg c4 hf1
  replace hs := hs.chg c4 hf2
  have lo4 := (H.out.grow cc).chg c4 (fun i e => by rw [e]; exact HZ.out)
  replace cc := (cc.mono (S := (· = gc)) (fun _ _ h => h.elim)).trans c4
  clear c4
  obtain ⟨y0, y1, y2, -⟩ := hyy.yc
  obtain ⟨s0, s1⟩ := hs.cell2
  have hb3 : Blk (w4.alloc (.cells [.int .i64 y.OF, .int .i64 y.OT, .int .i64 y.OE].toArray 34)) w4.heap.size 34 (spCs [⟨y.OF, y.OT, y.OE⟩]) := Blk.new _ _ _
  have g5 := Grow.box w4 (.cells [.int .i64 y.OF, .int .i64 y.OT, .int .i64 y.OE].toArray 34)
  go_wp2_with fail
  clear y0 y1 y2 s0 s1
  replace hyy := hyy.chg g5 id
  replace hs := hs.chg g5 id
  replace cc := cc.trans (g5.mono (S := (· = gc)) (fun _ _ h => h.elim))
  replace lo4 := lo4.grow g5
  replace hct4 := hct4.grow g5
  clear g5
  generalize w4.alloc (.cells #[.int .i64 y.OF, .int .i64 y.OT, .int .i64 y.OE] 34) = w5 at *
  generalize w4.heap.size = q3 at *
  have hgl5 := hct4.glt
  refine (walk_any lo4.st hb3 rfl (by simp) H64.out HWK.out).mono ?_
  rintro en w6 ⟨c6, ⟨_, v, rfl, hol⟩ | ⟨h0, _⟩⟩
  rotate_left
  · exact absurd rfl h0
  obtain ⟨va, vc, hva⟩ := own_len hol
  subst hva
  have hrd := own_rd hol
  replace hyy := hyy.chg c6 id
  replace hs := hs.chg c6 id
  replace cc := cc.trans (c6.mono (S := (· = gc)) (fun _ _ h => h.elim))
  replace lo4 := lo4.grow c6
  replace hct4 := hct4.grow c6
  have hnv : ∀ x : Addr, va = some x → 0 < L.length → x.block ≠ gc := fun x e h0 => by
    obtain ⟨g', c', e', hb', _⟩ := hol.pos h0
    injection e' with e1 e2 e3
    rw [e] at e1
    injection e1 with e1
    rw [e1]
    show g' ≠ gc
    omega
  have HY := hide hyy
  have HS := hide hs
  have HC := hide cc
  have HRD := hide hrd
  have HLO := hide lo4
  have HC6 := hide hct4
  have HNV := hide hnv
  obtain ⟨N, hN⟩ : ∃ N, L.length = N := ⟨_, rfl⟩
  have HN := hide hN
  clear hb3 hol c6 hrd hyy hs cc lo4 hct4 hnv hgl5
  rw [hN]
  clear hN
  go_wp2_with fail
  go_loopw [22] (fun v wr => ∃ k : Nat, k ≤ N ∧ v = .int .i64 k ∧ Ct wr pc mc gc f t (recS y ob f t (L.take k)) ∧ Chg (· = gc) w6 wr) (fun v _ => N - (intOf v).toNat)
  case atStart => exact ⟨0, Nat.zero_le _, rfl, by rw [List.take_zero, HREC.out]; exact HC6.out, Chg.refl _ _⟩
  case round =>
    obtain ⟨k, hk, rfl, hct, gg⟩ := hrel
    have hlo := HLO.out.chg gg (fun i e => by rw [e]; exact HZ.out)
    rcases Nat.eq_or_lt_of_le hk with hke | hlt
    · subst hke
      have q1 : decide ((k : Int) < k) = false := by simp
      rw [List.take_of_length_le (by rw [HN.out]; omega)] at hct
      have HF := hide (And.intro hlo (And.intro hct (HC.out.trans gg)))
      clear hlo hct gg hk
      go_wp2
      go_end0
      exact ⟨rfl, HF.out.1, HF.out.2.1, HF.out.2.2⟩
    · have q1 : decide ((k : Int) < N) = true := decide_eq_true (by omega)
      have q2 : k < N := hlt
      have hkl : k < L.length := by rw [HN.out]; exact hlt
      have hw1 : IntKind.i64.wrap ((k : Int) + 1) = ((k + 1 : Nat) : Int) := (IntWalk.i64_in _ (by have := HLL.out; omega)).trans (by omega)
      have hrr : L1.Rd wr va L.length L := HRD.out.chg gg (fun x e => HNV.out x e (by omega))
      obtain ⟨ad, hva, hcx⟩ := hrr.at_ hkl
      have hm : L.getD k 0 ∈ L := getD_mem hkl
      have htk : L.take (k + 1) = L.take k ++ [L.getD k 0] := by
        rw [List.take_add_one, List.getElem?_eq_getElem hkl, List.getD_eq_getElem?_getD, List.getElem?_eq_getElem hkl]
        rfl
      have hld := leads_any hlo.st (HAT.out _ hm) y
      have hsn := recS_snoc y ob f t (L.take k) (L.getD k 0)
      rw [← htk] at hsn
      obtain ⟨x, hx⟩ : ∃ x, L.getD k 0 = x := ⟨_, rfl⟩
      rw [hx] at hcx hld hsn
      obtain ⟨bb, hbb⟩ : ∃ bb, y.ld (ob x) = bb := ⟨_, rfl⟩
      rw [hbb] at hld hsn
      have HLDX := hide hld
      have HSN := hide hsn
      subst hva
      have hyy := HY.out.chg gg hf1
      have hs := HS.out.chg gg hf2
      obtain ⟨y0, y1, y2, y3, y4, y5, y6, y7, y8, y9, y10, y11, y12⟩ := hyy.yc
      obtain ⟨s0, s1⟩ := hs.cell2
      have HCT2 := hide hct
      have HG := hide gg
      clear hlo hct gg hrr hm htk hld hsn hx hbb hyy hs hk hkl
      cases bb with
      | false =>
        go_wp2_with fail
        refine HLDX.out.mono ?_
        rintro e wa ⟨rfl, ca⟩
        have HF := hide (And.intro (HCT2.out.grow ca) (HG.out.trans (ca.mono (S := (· = gc)) (fun _ _ h => h.elim))))
        clear y0 y1 y2 y3 y4 y5 y6 y7 y8 y9 y10 y11 y12 s0 s1 ca hcx
        go_wp2
        go_roundw
        case rel => exact ⟨k + 1, q2, rfl, by rw [HSN.out]; exact HF.out.1, HF.out.2⟩
        case measure => simp [intOf]; omega
      | true =>
        go_wp2_with fail
        refine HLDX.out.mono ?_
        rintro e wa ⟨rfl, ca⟩
        have HF := hide (And.intro (HCT2.out.grow ca) (HG.out.trans (ca.mono (S := (· = gc)) (fun _ _ h => h.elim))))
        clear y0 y1 y2 y3 y4 y5 y6 y7 y8 y9 y10 y11 y12 s0 s1 ca hcx
        go_wp2_with fail
        refine (tb_touch HF.out.1 x rfl rfl).mono ?_
        rintro e wb ⟨rfl, hb, cb⟩
        have HF2 := hide (And.intro hb (HF.out.2.trans cb))
        clear hb cb
        go_wp2
        go_roundw
        case rel => exact ⟨k + 1, q2, rfl, by rw [HSN.out]; exact HF2.out.1, HF2.out.2⟩
        case measure => simp [intOf]; omega
end
end Go.Proofs.YtogfjclmohpjkaaGreatDoor.L15
