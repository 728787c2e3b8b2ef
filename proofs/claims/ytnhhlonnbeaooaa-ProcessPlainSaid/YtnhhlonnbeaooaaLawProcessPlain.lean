/- For all nodes, references and roots ProcessPlain answers true: without reference nodes, and without nodes that are Final, just what is reached from the roots stays, and nothing is cleared, whatever is kept. Conditions: none. -/
import Derived.Test.YtnhhlonnbeaooaaL13W
namespace Go.Proofs.Ytnhhlonnbeaooaa.processPlain
open Go.ChangeShapes Go.WideShapes Go.ChangeAt Go.RowKit Go.Deep Go.Proofs.Ytnhhlonnbeaooaa.L10 Go.Proofs.Ytnhhlonnbeaooaa.L13
open Go.Proofs.Ytnhhlonnbeaooaa.L9 (Nd nd GS RG Rf Lok In64 Srt nd_some nd_none nd_mem own_rd own_cast ptr newX_rt hasB hldX aimX)
open Go.Proofs.Ytnhhlonnbeaooaa.L5 (Cl clAt isRf IsCls newX)
set_option linter.unusedVariables false
set_option maxRecDepth 100000 in
theorem open_tri2 {H : Type} {enc : TypeId × Value → H} {w : World} {base : Nat} {held : Bool} {r : Reach} {b0 : Nat} {v : Value} {d : DataW H} {p : List MemPlace} (hv : Value.okWide Try.prog w r b0 24 v) (h : DataW.Trod enc Try.prog w base (fun _ => true) held 24 v d p) :
    ∃ a len cap l, v = .slice a len cap ∧ IsTri w a len cap l := by
  obtain ⟨a, len, cap, rfl⟩ := okWide_slice Try.underlying24 hv
  obtain ⟨l, hl⟩ := open_tri h
  exact ⟨a, len, cap, l, rfl, hl⟩
/-- The classes. -/
def pC : List Cl := [⟨1, 2, 0, false⟩, ⟨2, 0, 0, false⟩]
theorem pC_at {c : Int} {k : Cl} (h : clAt pC c = some k) : isRf k.k = false ∧ k.f = false := by
  obtain ⟨j, -, -, hj⟩ := L5.clAt_some h
  have hm := List.mem_of_getElem? hj
  simp only [pC, List.mem_cons, List.not_mem_nil, or_false] at hm
  rcases hm with rfl | rfl <;> exact ⟨by decide, rfl⟩
section
variable {w : World} {L : List Nd} {na ra a1 : Option Addr} {nl nc rl rc len1 cap1 : Nat} {ns zs : List Int} {ts : List Tr}
theorem aim0 (ho : ∀ x ∈ L, x.Ok pC) (i : Int) : aimX pC L i = (0, 0) := by
  unfold aimX
  split
  · rfl
  · rename_i x hx
    obtain ⟨c, hc, -⟩ := (ho x (nd_some hx).1).cl
    rw [hc, show L9.kd (some c) = c.k from rfl, (pC_at hc).1, if_neg (by simp)]
theorem fin0 (ho : ∀ x ∈ L, x.Ok pC) (hf : Fv pC L) (p : Int → Bool) : clL L (fi L p) = [] := by
  rw [List.eq_nil_iff_forall_not_mem]
  intro i hi
  unfold clL at hi
  obtain ⟨x, hx, rfl⟩ := List.mem_map.1 hi
  obtain ⟨hxL, h⟩ := List.mem_filter.1 hx
  unfold fi at h
  have h1 := (Bool.and_eq_true_iff.1 h).1
  unfold fnB at h1
  split at h1
  · cases h1
  · rename_i y hy
    obtain ⟨hyL, -⟩ := nd_some hy
    obtain ⟨c, hc, -⟩ := (ho y hyL).cl
    rw [hf y hyL, hc] at h1
    have := (pC_at hc).2
    rw [show fof (some c) = c.f from rfl, this] at h1
    cases h1
theorem ces0 (ho : ∀ x ∈ L, x.Ok pC) (p q : Int → Bool) : ces pC L p q = [] := by
  have h := aim0 ho
  have e1_ : e1 pC L p = fun _ => false := by funext i; unfold e1 sw; rw [h]; simp
  have e2_ : e2 pC L p q = fun _ => false := by funext i; unfold e2 sw; rw [h]; simp
  have e3_ : e3 pC L q = fun _ => false := by funext i; unfold e3; rw [h]; simp
  unfold ces
  rw [e1_, e2_, e3_]
  simp [clL]
theorem live0 {K p q r : Int → Bool} (ho : ∀ x ∈ L, x.Ok pC) (hf : Fv pC L) (hs : Srt L) (h : Rs pC L K zs p q) (hr : IsRc pC L 1 zs r) : q = r := by
  have hq := h.same (fin0 ho hf p) hs
  rw [hq]
  funext i
  rw [Bool.eq_iff_iff, h.a i, hr i]
  refine ⟨fun hk => ?_, Rc.toKc⟩
  induction hk with
  | st a b => exact .st a b
  | go _ a b ih => exact .go ih (by rw [outs1]; exact a) b
  | kp _ a => rw [aim0 ho] at a; simp at a
set_option maxRecDepth 100000 in
set_option maxHeartbeats 2000000 in
theorem walk_no (h0 : IsRow .u8 w na nl nc ns) (h1 : IsTri w ra rl rc ts) (h2 : IsRow .i64 w a1 len1 cap1 zs) (hg : ¬ (nl ≤ 40 ∧ rl ≤ 200)) :
    Calls Try.prog 6 #[.slice na nl nc, .slice ra rl rc, .slice a1 len1 cap1] w fun e w' => e = .returned (.bool true) ∧ Below w.heap.size w w' := by
  have hl := Blk.new w 60 [.int .i64 1, .int .i64 2, .int .i64 0, .bool false, .int .i64 2, .int .i64 0, .int .i64 0, .bool false]
  have gB := Grow.box w (.cells [.int .i64 1, .int .i64 2, .int .i64 0, .bool false, .int .i64 2, .int .i64 0, .int .i64 0, .bool false].toArray 60)
  have hcl : IsCls _ (some ⟨w.heap.size, 0, none⟩) 2 2 pC := L5.IsCls.two (c := ⟨1, 2, 0, false⟩) (d := ⟨2, 0, 0, false⟩) hl (by decide) (by decide)
  have hwo : IsWo (w.alloc (.cells [.int .i64 1, .int .i64 2, .int .i64 0, .bool false, .int .i64 2, .int .i64 0, .int .i64 0, .bool false].toArray 60)) ⟨some ⟨w.heap.size, 0, none⟩, 2, 2, na, nl, nc, ra, rl, rc⟩ pC ns ts := ⟨hcl, h0.chg gB fun _ _ => id, h1.chg gB fun _ _ => id⟩
  have HM := hide (made_no hwo fun h => hg h.1)
  clear h0 h1 h2 hg hl hcl hwo
  go_enter Try.func6, Try.ntmps6
  go_wp2_with fail
  refine HM.out.mono ?_
  rintro e w3 ⟨rfl, c3⟩
  have HG := hide (gB.trans c3)
  clear gB c3 HM
  go_wp2_with fail
  refine (awake_any _).mono ?_
  rintro e w4 ⟨rfl, c4⟩
  have HG4 := hide (HG.out.trans c4)
  clear c4
  go_wp2_with fail
  refine (awake_any _).mono ?_
  rintro e w5 ⟨rfl, c5⟩
  have HG5 := hide (HG4.out.trans c5)
  clear c5
  go_wp2
  go_ret
  exact ⟨rfl, HG5.out.below (fun _ _ h => h) (Nat.le_refl _)⟩
set_option maxRecDepth 100000 in
set_option maxHeartbeats 2000000 in
theorem walk_long (h0 : IsRow .u8 w na nl nc ns) (h1 : IsTri w ra rl rc ts) (h2 : IsRow .i64 w a1 len1 cap1 zs) (hg : nl ≤ 40 ∧ rl ≤ 200) (hlen : 40 < len1) :
    Calls Try.prog 6 #[.slice na nl nc, .slice ra rl rc, .slice a1 len1 cap1] w fun e w' => e = .returned (.bool true) ∧ Below w.heap.size w w' := by
  have hl := Blk.new w 60 [.int .i64 1, .int .i64 2, .int .i64 0, .bool false, .int .i64 2, .int .i64 0, .int .i64 0, .bool false]
  have gB := Grow.box w (.cells [.int .i64 1, .int .i64 2, .int .i64 0, .bool false, .int .i64 2, .int .i64 0, .int .i64 0, .bool false].toArray 60)
  have hcl : IsCls _ (some ⟨w.heap.size, 0, none⟩) 2 2 pC := L5.IsCls.two (c := ⟨1, 2, 0, false⟩) (d := ⟨2, 0, 0, false⟩) hl (by decide) (by decide)
  have hwo : IsWo (w.alloc (.cells [.int .i64 1, .int .i64 2, .int .i64 0, .bool false, .int .i64 2, .int .i64 0, .int .i64 0, .bool false].toArray 60)) ⟨some ⟨w.heap.size, 0, none⟩, 2, 2, na, nl, nc, ra, rl, rc⟩ pC ns ts := ⟨hcl, h0.chg gB fun _ _ => id, h1.chg gB fun _ _ => id⟩
  have HM := hide (made_yes hwo ⟨hg, ⟨show (2:Nat) ≠ 0 by decide, show (2:Nat) ≤ 63 by decide⟩, by decide⟩)
  have q1 : decide ((len1 : Int) > 40) = true := by simp; omega
  clear h0 h1 h2 hg hl hcl hwo hlen
  go_enter Try.func6, Try.ntmps6
  go_wp2_with fail
  refine HM.out.mono ?_
  rintro e w3 ⟨z, p, q, L, rfl, -, -, -, -, -, c3⟩
  have HG := hide (gB.trans c3)
  clear gB c3 HM
  go_wp2_with fail
  refine (awake_any _).mono ?_
  rintro e w4 ⟨rfl, c4⟩
  have HG4 := hide (HG.out.trans c4)
  clear c4
  go_wp2_with fail
  refine (awake_any _).mono ?_
  rintro e w5 ⟨rfl, c5⟩
  have HG5 := hide (HG4.out.trans c5)
  clear c5
  go_wp2
  go_ret
  exact ⟨rfl, HG5.out.below (fun _ _ h => h) (Nat.le_refl _)⟩
set_option maxRecDepth 100000 in
set_option maxHeartbeats 40000000 in
theorem walk_main (h0 : IsRow .u8 w na nl nc ns) (h1 : IsTri w ra rl rc ts) (h2 : IsRow .i64 w a1 len1 cap1 zs) (hg : nl ≤ 40 ∧ rl ≤ 200) (hlen : len1 ≤ 40) :
    Calls Try.prog 6 #[.slice na nl nc, .slice ra rl rc, .slice a1 len1 cap1] w fun e w' => e = .returned (.bool true) ∧ Below w.heap.size w w' := by
  have hl := Blk.new w 60 [.int .i64 1, .int .i64 2, .int .i64 0, .bool false, .int .i64 2, .int .i64 0, .int .i64 0, .bool false]
  have gB := Grow.box w (.cells [.int .i64 1, .int .i64 2, .int .i64 0, .bool false, .int .i64 2, .int .i64 0, .int .i64 0, .bool false].toArray 60)
  have hcl : IsCls _ (some ⟨w.heap.size, 0, none⟩) 2 2 pC := L5.IsCls.two (c := ⟨1, 2, 0, false⟩) (d := ⟨2, 0, 0, false⟩) hl (by decide) (by decide)
  have hwo : IsWo (w.alloc (.cells [.int .i64 1, .int .i64 2, .int .i64 0, .bool false, .int .i64 2, .int .i64 0, .int .i64 0, .bool false].toArray 60)) ⟨some ⟨w.heap.size, 0, none⟩, 2, 2, na, nl, nc, ra, rl, rc⟩ pC ns ts := ⟨hcl, h0.chg gB fun _ _ => id, h1.chg gB fun _ _ => id⟩
  have HM := hide (made_yes hwo ⟨hg, ⟨show (2:Nat) ≠ 0 by decide, show (2:Nat) ≤ 63 by decide⟩, by decide⟩)
  have q1 : decide ((len1 : Int) > 40) = false := by simp; omega
  have HGD := hide hg
  have HLE := hide hlen
  have HRW := hide h2
  have HCL := hide hcl
  clear h0 h1 h2 hg hl hcl hwo hlen
  go_enter Try.func6, Try.ntmps6
  go_wp2_with fail
  refine HM.out.mono ?_
  rintro e w3 ⟨z, p, q, L, rfl, hbo, hids, hrv, hfv, hzz, c3⟩
  obtain ⟨S, T, hgs, hrg, hap⟩ := hbo
  have hlen : L.length = nl := by have := congrArg List.length hids; rwa [List.length_map, nms_len] at this
  have hpg : Pg w3 z T q (some ⟨w.heap.size, 0, none⟩) 2 2 pC L := ⟨hrg, HCL.out.chg c3 fun _ _ => id, hgs.lok, (newX_rt (by decide)).1, by have := HGD.out.1; omega, by omega⟩
  have HGS := hide hgs
  have HPG := hide hpg
  have HFV := hide hfv
  have hl40 : L.length ≤ 40 := by have := HGD.out.1; omega
  have HL40 := hide hl40
  have HG3 := hide (gB.trans c3)
  clear gB c3 HM hids hrv hfv hgs hrg hap hzz HCL hpg hl40 hlen
  go_wp2_with fail
  refine (awake_any _).mono ?_
  rintro e w4 ⟨rfl, c4⟩
  obtain ⟨p1, q1', hA⟩ := ex_rs pC L (fun _ => true) zs
  obtain ⟨p2, q2', hB⟩ := ex_rs pC L no zs
  obtain ⟨r, hr⟩ := ex_rc pC L 1 zs
  have hok : ∀ x ∈ L, x.Ok pC := fun x hx => HGS.out.ok hx
  have hs := HGS.out.srt
  have ha := live0 hok HFV.out hs hA hr
  have hb := live0 hok HFV.out hs hB hr
  obtain ⟨l1, e1⟩ : ∃ l, clL L r = l := ⟨_, rfl⟩
  obtain ⟨m1, f1⟩ : ∃ n, l1.length = n := ⟨_, rfl⟩
  have hrd := (row_rd HRW.out).1
  have hi := (row_rd HRW.out).2
  have hle := HLE.out
  have HGG := hide (HG3.out.trans c4)
  have HRA := hide (fun (W : World) (g : Grow w4 W) => run_l (cc := cap1) (enters_of Try.func27 (by kernel_rfl) rfl) (keeps_plain (w := W) (L := L)) (HGS.out.grow (c4.trans g)) HL40.out (L9.L1.Rd.chg hrd (HGG.out.trans g) fun _ _ => id) (by omega) hi hA (show clL L q1' = l1 by rw [ha]; exact e1) (ces0 hok p1 q1') (fin0 hok HFV.out p1) f1 (show ([] : List Int).length = 0 from rfl) (show ([] : List Int).length = 0 from rfl))
  have HRB := hide (fun (W : World) (g : Grow w4 W) => run_ln (cc := cap1) (HGS.out.grow (c4.trans g)) HL40.out (L9.L1.Rd.chg hrd (HGG.out.trans g) fun _ _ => id) (by omega) hi hB (show clL L q2' = l1 by rw [hb]; exact e1) (ces0 hok p2 q2') (fin0 hok HFV.out p2) f1 (show ([] : List Int).length = 0 from rfl) (show ([] : List Int).length = 0 from rfl))
  have HCL := hide (fun (W : World) (g : Grow w4 W) => close_l (cc := cap1) (HPG.out.grow (c4.trans g)) HL40.out (L9.L1.Rd.chg hrd (HGG.out.trans g) fun _ _ => id) (by omega) hr e1 f1)
  have HM40 := hide (show m1 ≤ 40 from by rw [← f1, ← e1]; have := clL_le L r; have := HL40.out; omega)
  clear c4 hA hB hr hok hs ha hb e1 f1 hrd hi hle HG3
  go_wp2_with fail
  refine (HRA.out _ (Chg.refl _ _)).mono ?_
  rintro e w5 ⟨x1, y1, x2, y2, x3, y3, rfl, o1, o2, o3, c5⟩
  have HA := hide (Rr.boxed c5 o1 o2 o3)
  have hcc := c5.alloc (.cells [.slice x1 m1 y1, .slice x2 0 y2, .slice x3 0 y3].toArray 35)
  have HG5 := hide hcc
  clear o1 o2 o3 c5 hcc HRA
  have hfd : ∀ (x4 : Option Addr) (m4 y4 : Nat) (x5 : Option Addr) (m5 y5 : Nat) (x6 : Option Addr) (m6 y6 : Nat) (W : World), (Instr.field 35 (.agg #[.slice x4 m4 y4, .slice x5 m5 y5, .slice x6 m6 y6]) 0).run Try.prog W = .ok (.slice x4 m4 y4) W := fun _ _ _ _ _ _ _ _ _ W => by kernel_rfl
  go_wp2_with fail
  generalize w5.alloc (.cells #[.slice x1 m1 y1, .slice x2 0 y2, .slice x3 0 y3] 35) = wa at *
  generalize w5.heap.size = ta at *
  have r0 := HA.out.k0
  have r1 := HA.out.k1
  have r2 := HA.out.k2
  have HK1 := hide (fun (W : World) (c : Grow wa.drew W) => (⟨c.cell (show wa.drew.cell? ⟨ta, 0, none⟩ = some (.slice x1 m1 y1) from r0), c.cell (show wa.drew.cell? ⟨ta, 1, none⟩ = some (.slice x2 0 y2) from r1), c.cell (show wa.drew.cell? ⟨ta, 2, none⟩ = some (.slice x3 0 y3) from r2)⟩ : W.cell? ⟨ta, 0, none⟩ = some (.slice x1 m1 y1) ∧ W.cell? ⟨ta, 1, none⟩ = some (.slice x2 0 y2) ∧ W.cell? ⟨ta, 2, none⟩ = some (.slice x3 0 y3)))
  have HRD := hide (fun (W : World) (c : Grow wa.drew W) => (HA.out.grow ((Chg.refl (fun _ => False) wa).drew.trans c)).o1.rd)
  have HGD5 := hide (HG5.out.trans (Chg.refl (fun _ => False) wa).drew)
  have HC2 := hide (fun (Q : Ending → World → Prop) (hQ : ∀ (ca2 : Option Addr) (cc2 : Nat) (w6 : World), Nl w6 wa.drew.heap.size ca2 m1 cc2 l1 → Grow wa.drew w6 → Q (.returned (.slice ca2 m1 cc2)) w6) => (HCL.out wa.drew HGD5.out).mono (R' := Q) (fun e w' h => by obtain ⟨ca2, cc2, rfl, hnl, c6⟩ := h; exact hQ _ _ _ hnl c6))
  have HR2 := hide (fun (w7 : World) (g : Grow wa.drew w7) (Q : Ending → World → Prop) (hQ : ∀ (x4 : Option Addr) (y4 : Nat) (x5 : Option Addr) (y5 : Nat) (x6 : Option Addr) (y6 : Nat) (w8 : World), L1.Rd w8 x4 m1 l1 → Grow w7 w8 → Q (.returned (.agg #[.slice x4 m1 y4, .slice x5 0 y5, .slice x6 0 y6])) w8) => (HRB.out w7 (HGD5.out.trans g)).mono (R' := Q) (fun e w' h => by obtain ⟨x4, y4, x5, y5, x6, y6, rfl, o1, o2, o3, c8⟩ := h; exact hQ _ _ _ _ _ _ _ o1.rd c8))
  have HS1 := hide (fun (w6 : World) (ca2 : Option Addr) (cc2 : Nat) (hn : Nl w6 wa.drew.heap.size ca2 m1 cc2 l1) (g : Grow wa.drew w6) (Q : Ending → World → Prop) (hQ : ∀ w7, Grow w6 w7 → Q (.returned (.bool true)) w7) => (L1.same_yes x1 ca2 m1 y1 cc2 l1 w6 (HRD.out _ g) hn.rd (by have := HM40.out; omega)).mono (R' := Q) (fun e w' h => by obtain ⟨rfl, c⟩ := h; exact hQ _ c))
  have HS2 := hide (fun (w8 : World) (x4 : Option Addr) (y4 : Nat) (hn : L1.Rd w8 x4 m1 l1) (g : Grow wa.drew w8) (Q : Ending → World → Prop) (hQ : ∀ w9, Grow w8 w9 → Q (.returned (.bool true)) w9) => (L1.same_yes x4 x1 m1 y4 y1 l1 w8 hn (HRD.out _ g) (by have := HM40.out; omega)).mono (R' := Q) (fun e w' h => by obtain ⟨rfl, c⟩ := h; exact hQ _ c))
  go_region_held3 (fun W => W.cell? ⟨ta, 0, none⟩ = some (.slice x1 m1 y1) ∧ W.cell? ⟨ta, 1, none⟩ = some (.slice x2 0 y2) ∧ W.cell? ⟨ta, 2, none⟩ = some (.slice x3 0 y3)) (first | exact HK1.out _ c6 | exact HK1.out _ (c6.trans c7) | exact HK1.out _ ((c6.trans c7).trans c8) | exact HK1.out _ (((c6.trans c7).trans c8).trans c9) | go_keep) (first | (go_at_call 17; with_reducible refine HC2.out _ ?_; intro ca2 cc2 w6 hnl c6) | (go_at_call 22; with_reducible refine HS1.out _ _ _ hnl c6 _ ?_; intro w7 c7) | (go_at_call 11; with_reducible refine HR2.out _ (c6.trans c7) _ ?_; intro x4 y4 x5 y5 x6 y6 w8 o1 c8) | (go_at_call 22; with_reducible refine HS2.out _ _ _ o1 ((c6.trans c7).trans c8) _ ?_; intro w9 c9))
  go_wp2
  go_ret
  exact ⟨by simp, (HGG.out.trans (HGD5.out.trans (((c6.trans c7).trans c8).trans c9))).below (fun _ _ h => h) (Nat.le_refl _)⟩
theorem walk (na : Option Addr) (nl nc : Nat) (ns : List Int) (ra : Option Addr) (rl rc : Nat) (ts : List Tr) (a1 : Option Addr) (len1 cap1 : Nat) (zs : List Int) (w : World) (h0 : IsRow .u8 w na nl nc ns) (h1 : IsTri w ra rl rc ts) (h2 : IsRow .i64 w a1 len1 cap1 zs) :
    Calls Try.prog 6 #[.slice na nl nc, .slice ra rl rc, .slice a1 len1 cap1] w fun e w' => e = .returned (.bool true) ∧ Below w.heap.size w w' := by
  by_cases hg : nl ≤ 40 ∧ rl ≤ 200
  · by_cases hl : 40 < len1
    · exact walk_long h0 h1 h2 hg hl
    · exact walk_main h0 h1 h2 hg (by omega)
  · exact walk_no h0 h1 h2 hg
end
theorem own : ownKnob Try.prog.godebug = none := by kernel_rfl
theorem laidOut : laidOutB Try.prog = true := by kernel_rfl

set_option maxRecDepth 100000 in
theorem lifted (os : Os) (started : os.Started) (H : Type) (enc : TypeId × Value → H) :
    ReturnsInHanded {} Try.checked os 6 .any (Rows.processPlainSpec.pre6 enc Try.prog Try.f6 Rows.processPlainRow.domain false) (Rows.processPlainSpec.post enc Try.prog Try.f6 false true false false) := by
  refine returnsInHanded_of_change (C := Try.checked) own started (by kernel_rfl) Try.func6
    (ChangeSpec.witness6 (enc := enc) (C := Try.checked) false ⟨#[], #[.slice none 0 0, .slice none 0 0, .slice none 0 0], []⟩ 8 (by kernel_rfl) (by kernel_rfl) (by kernel_rfl) (by kernel_rfl)) ?_
  intro W base args ds gs before hval0 hW hcnd _
  have hval : ∀ (j : Nat) t v, Try.f6.params[j]? = some t → args[j]? = some v → Value.okWide Try.prog W .any base t v := hval0
  have hW' := hW
  obtain ⟨p, q, hA0, hV, rfl, hfz, hnd⟩ := hW
  have hA : DataW.TrodAll enc Try.prog W 0 (fun _ => true) true Try.f6.params.toList args.toList ds p := hA0
  rw [Try.params6] at hA hval
  obtain ⟨v0, vs0, d0, ds0, p0, q0, hargs, rfl, rfl, h0, r0⟩ := trodAll_cons hA
  obtain ⟨v1, vs1, d1, ds1, p1, q1, rfl, rfl, rfl, h1, r1⟩ := trodAll_cons r0
  obtain ⟨v2, vs2, d2, ds2, p2, q2, rfl, rfl, rfl, h2, r2⟩ := trodAll_cons r1
  obtain ⟨rfl, rfl, rfl⟩ := trodAll_nil r2
  obtain rfl : args = #[v0, v1, v2] := by cases args; simp_all
  obtain ⟨rfl, rfl⟩ := trodVars_none hV
  obtain ⟨a0, len0, cap0, rfl⟩ := okWide_slice Try.underlying23 (hval 0 23 v0 rfl rfl)
  have k0 := h0
  have lt0 : ∀ x ∈ p0, x.block < W.heap.size := by obtain ⟨m, hm⟩ := k0; exact DataW.trod_lt m _ _ _ hm
  obtain ⟨z0, w0⟩ : ∃ zs, IsRow .u8 W a0 len0 cap0 zs := open_row Try.underlying23 Try.underlying5 (by kernel_rfl) h0
  have k1 := h1
  have lt1 : ∀ x ∈ p1, x.block < W.heap.size := by obtain ⟨m, hm⟩ := k1; exact DataW.trod_lt m _ _ _ hm
  obtain ⟨ta1, tl1, tc1, ts1, rfl, w1⟩ := open_tri2 (hval 1 24 v1 rfl rfl) h1
  obtain ⟨a2, len2, cap2, rfl⟩ := okWide_slice Try.underlying27 (hval 2 27 v2 rfl rfl)
  have k2 := h2
  have lt2 : ∀ x ∈ p2, x.block < W.heap.size := by obtain ⟨m, hm⟩ := k2; exact DataW.trod_lt m _ _ _ hm
  obtain ⟨z2, w2⟩ : ∃ zs, IsRow .i64 W a2 len2 cap2 zs := open_row Try.underlying27 Try.underlying3 (by kernel_rfl) h2
  clear hA0 hval0
  refine (walk a0 len0 cap0 z0 ta1 tl1 tc1 ts1 a2 len2 cap2 z2 W w0 w1 w2).mono fun e W' ⟨he, bel⟩ => ?_
  subst he
  exact ⟨_, rfl, _, _, _, [], _, [], hW', trodAll_mk1 (shut_bool Try.underlying4 _), (trodAll_cons_mk (Below.trod laidOut (by kernel_rfl) (of_decide_eq_true (by kernel_rfl)) k0 bel lt0) (trodAll_cons_mk (Below.trod laidOut (by kernel_rfl) (of_decide_eq_true (by kernel_rfl)) k1 bel lt1) (trodAll_cons_mk (Below.trod laidOut (by kernel_rfl) (of_decide_eq_true (by kernel_rfl)) k2 bel lt2) trodAll_mk0))), rfl, bel.frame _, fun h => by cases h⟩

theorem over : Rows.processPlainRow.holds Try.pinned (OpenSpec.ofChange Rows.processPlainSpec) :=
  OpenClaim.holds_of_wide 6 Try.f6 rfl rfl rfl rfl rfl rfl rfl ⟨rfl, rfl, rfl, rfl, rfl⟩ rfl rfl rfl rfl rfl (by kernel_rfl) Try.func6 (by kernel_rfl)
    (of_decide_eq_true (by kernel_rfl)) (by unfold Func.isWrapper; first | (rw [if_pos (by decide +kernel)]; kernel_rfl) | (rw [if_neg (by decide +kernel)]; exact ⟨rfl, rfl⟩))
    (fun os started H enc _ => lifted os started H enc)

/-- The statement. -/
theorem proved : Rows.ProcessPlainSaid := over
#print axioms proved
end Go.Proofs.Ytnhhlonnbeaooaa.processPlain

