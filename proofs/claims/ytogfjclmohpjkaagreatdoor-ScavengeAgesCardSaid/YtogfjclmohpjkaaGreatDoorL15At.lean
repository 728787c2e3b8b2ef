/- What the plain At answers of an object. Conditions: it ends ahead of the last word. -/
import Derived.Test.YtogfjclmohpjkaaGreatDoorL15Br
namespace Go.Proofs.YtogfjclmohpjkaaGreatDoor.L15
open Go.ChangeShapes Go.WideShapes Go.ChangeAt Go.RowKit
open Go.Proofs.YtogfjclmohpjkaaGreatDoor.L1 (Sl Ar RAr ptr exB)
open Go.Proofs.YtogfjclmohpjkaaGreatDoor.L4 (hdV riB wd)
open Go.Proofs.YtogfjclmohpjkaaGreatDoor.L5 (Cl clV rtB Tb clAt shX shR shD IsCls)
open Go.Proofs.YtogfjclmohpjkaaGreatDoor.L6 (Th th0 stV St fdT fdX obT obX slX slP slV gw Wk)
set_option linter.unusedVariables false
set_option maxRecDepth 100000
theorem step_app {P : Program} {ops : Array Oper} {o : Oper} {a : Act} {w : World} {K : Act → World → Prop} {Q : Exit → Act → World → Prop} {E : Prop} (hgd : o.guard = none) (s x : Operand) (t : TypeId)
    (ho : o.op = .call { callee := .builtin .append, args := #[s, x], argTypes := #[t, t] }) (v1 v2 v' : Value) (w' : World) (hs : a.eval s = v1) (hx : a.eval x = v2)
    (hr : (Builtin.append_ #[t, t] o.type #[v1, v2]).run P w = .ok v' w') (h : K (a.put o.dst v') w') : if Region.wanted o (yielded ops a.tmps) = true then Oper.wp P o a w K Q else E := by
  have hw : Region.wanted o (yielded ops a.tmps) = true := by simp [Region.wanted, hgd]
  rw [if_pos hw]
  unfold Oper.wp
  simp [execOp, ho, resolve, invoke, builtin, hs, hx, hr, Result.andThen]
  exact h
theorem app_two {w0 W : World} {v1 v2 : Value} {a1 a2 : Option Addr} {n1 n2 c1 c2 : Nat} {ys1 ys2 : List Int} (g : Grow w0 W) (h1 : OL W w0.heap.size v1 []) (h2 : OL W w0.heap.size v2 []) (ha : ∀ k, v1.ownBlock = some k → v2.ownBlock ≠ some k)
    (r1 : L1.Rd W a1 n1 ys1) (r2 : L1.Rd W a2 n2 ys2) (l2 : ∀ x : Addr, a2 = some x → x.block < w0.heap.size) (hn1 : n1 ≤ 100000) (hn2 : n2 ≤ 100000) :
    ∃ x1 y1 W1 x2 y2 W2, (Builtin.append_ #[37, 37] 37 #[v1, .slice a1 n1 c1]).run Tryz.prog W = .ok (.slice x1 ys1.length y1) W1 ∧ (Builtin.append_ #[37, 37] 37 #[v2, .slice a2 n2 c2]).run Tryz.prog W1 = .ok (.slice x2 ys2.length y2) W2 ∧
      OL W2 w0.heap.size (.slice x1 ys1.length y1) ys1 ∧ OL W2 w0.heap.size (.slice x2 ys2.length y2) ys2 ∧ Grow w0 W1 ∧ Grow w0 W2 := by
  obtain ⟨u1, W1, e1, o1, g1, s1⟩ := app_int (c := c1) h1 g.size r1 (by simp; omega)
  have k1 : Grow w0 W1 := Chg.grownOwn g h1 (Nat.le_refl _) g1
  have h2' : OL W1 w0.heap.size v2 [] := h2.chg (Chg.grown (S := fun i => v1.ownBlock = some i) (Chg.refl _ _) g1 (fun k _ e => e)) (fun k e h => ha k h e)
  obtain ⟨u2, W2, e2, o2, g2, s2⟩ := app_int (c := c2) h2' k1.size (r2.chg (Chg.grown (S := fun i => v1.ownBlock = some i) (Chg.refl _ _) g1 (fun k _ e => e)) (fun x e h => by have := (h1.lt _ h).1; have := l2 x e; omega)) (by simp; omega)
  have k2 : Grow w0 W2 := Chg.grownOwn k1 h2' (Nat.le_refl _) g2
  simp only [List.nil_append] at o1 o2
  have o1' : OL W2 w0.heap.size u1 ys1 := o1.chg (Chg.grown (S := fun i => v2.ownBlock = some i) (Chg.refl _ _) g2 (fun k _ e => e)) (fun k e h => by
    rcases s1 with s | s
    · exact ha k (by rw [← s, e]) h
    · rw [s] at e
      injection e with e
      have := (h2.lt _ h).2
      omega)
  obtain ⟨x1, y1, rfl⟩ := own_len o1'
  obtain ⟨x2, y2, rfl⟩ := own_len o2
  exact ⟨x1, y1, W1, x2, y2, W2, e1, e2, o1', o2, k1, k2⟩
theorem lit_own {W : World} {k : Nat} (h : (Value.slice (some ⟨W.heap.size, 0, none⟩) 0 0).ownBlock = some k) : k = W.heap.size := by
  have := (OL.lit W [] (by simp)).lt k h
  rw [World.size_alloc] at this
  omega
section
variable {w w' W : World} {q z cl cp : Nat} {ca : Option Addr} {xs : List Int} {cs : List Cl} {a : Int} {o : Ob}
theorem row_rd {ys : List Int} {K m : Nat} (h : Blk w z 3 (ints xs)) (hl : ys.length = m) (hk : K + m ≤ xs.length) (he : ∀ j, j < m → xs.getD (K + j) 0 = ys.getD j 0) : L1.Rd w (some ⟨z, K, none⟩) m ys :=
  ⟨hl, fun h0 => ⟨_, rfl, fun j hj => by
    rw [addr_add, h.cell, ints_get _ _ (by omega), he j hj]⟩⟩
set_option maxHeartbeats 4000000 in
theorem at_any (h : Rs w q z ca cl cp xs cs) (ho : ObAt xs cs a o) (hlt : a.toNat + o.sz < xs.length) :
    Calls Tryz.prog 51 #[rsV q ca cl cp, .int .i64 a] w fun e w' => ∃ vr vd, e = .returned (obV o vr vd) ∧ OL w' w.heap.size vr o.rs ∧ OL w' w.heap.size vd o.ds ∧ Grow w w' := by
  have HSZ := hide (fun W (c : Grow w W) => rshape_any (h.grow c) ho)
  have HHD := hide (fun W (c : Grow w W) => rhead_any (h.grow c) ho)
  have ha1 := ho.a1
  obtain ⟨K, rfl⟩ := Int.eq_ofNat_of_zero_le (show 0 ≤ a by omega)
  have hsz : o.sz = 2 + o.rs.length + o.ds.length := rfl
  obtain ⟨n, hn⟩ : ∃ n, xs.length = n := ⟨_, rfl⟩
  have hn4 := h.n
  rw [hn] at hlt hn4
  have hg1 : xs.getD (K + 1) 0 = o.l := ho.g1
  have RR := hide (fun W (c : Grow w W) => row_rd (K := K + 2) (m := o.rs.length) (ys := o.rs) (h.ar.2.chg c id) rfl (by simp at hlt; omega) (fun j hj => ho.rs_ hj))
  have RD := hide (fun W (c : Grow w W) => row_rd (K := K + 2 + o.rs.length) (m := o.ds.length) (ys := o.ds) (h.ar.2.chg c id) rfl (by simp at hlt; omega) (fun j hj => ho.ds_ hj))
  have HCE := hide (fun W (c : Grow w W) => show W.cell? ⟨q, 0, none⟩ = some (.slice (some ⟨z, 0, none⟩) n n) ∧ W.cell? ⟨z, K + 1, none⟩ = some (.int .i64 o.l) from ⟨hn ▸ (h.grow c).ar.cell, by rw [(h.grow c).ar.2.cell, ints_get _ _ (by simp at hlt; omega), hg1]⟩)
  have hzw : z < w.heap.size := h.ar.2.lt
  obtain ⟨A, F, m, f, d, hh⟩ : ∃ A F m f d, o.A = A ∧ o.F = F ∧ o.m = m ∧ o.f = f ∧ o.d = d := ⟨_, _, _, _, _, rfl, rfl, rfl, rfl, rfl⟩
  obtain ⟨C, hC⟩ : ∃ C, o.C = C := ⟨_, rfl⟩
  obtain ⟨l, hll⟩ : ∃ l, o.l = l := ⟨_, rfl⟩
  obtain ⟨rs, hrs⟩ : ∃ rs, o.rs = rs := ⟨_, rfl⟩
  obtain ⟨ds, hds⟩ : ∃ ds, o.ds = ds := ⟨_, rfl⟩
  rw [hh.1, hh.2.1, hh.2.2.1, hh.2.2.2.1, hh.2.2.2.2, hC] at HHD
  rw [hll] at HCE
  rw [hrs] at RR
  rw [hrs, hds] at RD HSZ
  rw [hrs, hds] at hsz
  unfold obV
  rw [hh.1, hh.2.1, hh.2.2.1, hh.2.2.2.1, hh.2.2.2.2, hC, hll, hrs, hds]
  rw [hsz] at hlt
  clear h ho hg1 hh hC hll hrs hds hn ha1 hsz
  obtain ⟨R, hR⟩ : ∃ R, rs.length = R := ⟨_, rfl⟩
  obtain ⟨D, hD⟩ : ∃ D, ds.length = D := ⟨_, rfl⟩
  rw [hR] at RR
  rw [hR, hD] at RD HSZ hlt
  have HR := hide hR
  have HD := hide hD
  have hlt' : K + (2 + R + D) < n := by simpa using hlt
  obtain ⟨K1, hK1⟩ : ∃ K1, K + 1 = K1 := ⟨_, rfl⟩
  obtain ⟨K2, hK2⟩ : ∃ K2, K + 2 = K2 := ⟨_, rfl⟩
  obtain ⟨K3, hK3⟩ : ∃ K3, K2 + R = K3 := ⟨_, rfl⟩
  obtain ⟨K4, hK4⟩ : ∃ K4, K3 + D = K4 := ⟨_, rfl⟩
  rw [hK1] at HCE
  rw [hK2] at RR
  rw [hK2, hK3] at RD
  have p1 : IntKind.i64.wrap ((K : Int) + 1) = (K1 : Int) := (IntWalk.i64_in _ (by omega)).trans (by omega)
  have p2 : IntKind.i64.wrap ((K : Int) + 2) = (K2 : Int) := (IntWalk.i64_in _ (by omega)).trans (by omega)
  have p3 : IntKind.i64.wrap ((K2 : Int) + (R : Int)) = (K3 : Int) := (IntWalk.i64_in _ (by omega)).trans (by omega)
  have p4 : IntKind.i64.wrap ((K3 : Int) + (D : Int)) = (K4 : Int) := (IntWalk.i64_in _ (by omega)).trans (by omega)
  have k1 : K1 < n := by omega
  have k2 : K2 ≤ K3 := by omega
  have k3 : K3 ≤ K4 := by omega
  have k4 : K4 ≤ n := by omega
  have k5 : K3 ≤ n := by omega
  have k6 : K3 - K2 = R := by omega
  have k7 : K4 - K3 = D := by omega
  have k8 : ¬ n - K2 = 0 := by omega
  have k9 : ¬ n - K3 = 0 := by omega
  have i1 : ¬ n = K2 := by omega
  have i2 : ¬ n = K3 := by omega
  have j1 : (0 : Int) ≤ (K1 : Int) := by omega
  have j2 : (K1 : Int) < (n : Int) := by omega
  have j3 : (0 : Int) ≤ (K2 : Int) := by omega
  have j4 : (K2 : Int) ≤ (K3 : Int) := by omega
  have j5 : (K3 : Int) ≤ (K4 : Int) := by omega
  have j6 : (K4 : Int) ≤ (n : Int) := by omega
  have j7 : (0 : Int) ≤ (K3 : Int) := by omega
  have j8 : (K3 : Int) ≤ (n : Int) := by omega
  have HRD := hide (show R ≤ 100000 ∧ D ≤ 100000 from ⟨by omega, by omega⟩)
  clear hlt hR hD hK1 hK2 hK3 hK4
  obtain ⟨hs, hr, cc, fs, fr, n_sr⟩ := boxes2 w 57 [ptr q, .slice ca cl cp] 105 zs9
  dsimp only [zs9] at hs hr cc
  go_enter Tryz.func51, Tryz.ntmps51
  obtain ⟨s0, s1⟩ := hs.cell2
  go_wp2_with fail
  clear s0 s1
  generalize (w.alloc (.cells #[ptr q, .slice ca cl cp] 57)).alloc (.cells #[.int .i64 0, .int .i64 0, .int .i64 0, .bool false, .bool false, .bool false, .int .i64 0, .slice none 0 0, .slice none 0 0] 105) = w3 at *
  generalize w.heap.size + 1 = r at *
  generalize hsw : w.heap.size = s at *
  refine (HSZ.out _ cc).mono ?_
  rintro e w4 ⟨rfl, c4⟩
  replace hs := hs.chg c4 id
  replace hr := hr.chg c4 id
  replace cc := cc.trans c4
  clear c4
  obtain ⟨s0, s1⟩ := hs.cell2
  go_wp2_with fail
  clear s0 s1
  refine (HHD.out _ cc).mono ?_
  rintro e w5 ⟨rfl, c5⟩
  replace hs := hs.chg c5 id
  replace hr := hr.chg c5 id
  replace cc := cc.trans c5
  clear c5
  have hh := Blk.new w5 103 [.int .i64 C, .int .i64 A, .int .i64 F, .bool m, .bool f, .bool d]
  replace hs := hs.alloc (.cells [.int .i64 C, .int .i64 A, .int .i64 F, .bool m, .bool f, .bool d].toArray 103)
  replace hr := hr.alloc (.cells [.int .i64 C, .int .i64 A, .int .i64 F, .bool m, .bool f, .bool d].toArray 103)
  replace cc := cc.alloc (.cells [.int .i64 C, .int .i64 A, .int .i64 F, .bool m, .bool f, .bool d].toArray 103)
  go_wp2_with fail
  generalize w5.alloc (.cells #[.int .i64 C, .int .i64 A, .int .i64 F, .bool m, .bool f, .bool d] 103) = w6 at *
  generalize w5.heap.size = hb at *
  have hsw6 : s ≤ w6.heap.size := hsw ▸ cc.size
  have HZ := hide hzw
  -- an empty list first and its append; both lists first; the other list first
  have gA : Grow w6 (w6.alloc (.cells #[] 3)).drew := (Grow.box w6 (.cells #[] 3)).drew
  have gB : Grow w6 ((w6.alloc (.cells #[] 3)).alloc (.cells #[] 3)).drew := ((Grow.box w6 (.cells #[] 3)).alloc (.cells #[] 3)).drew
  have hs1 : (w6.alloc (.cells #[] 3)).heap.size = w6.heap.size + 1 := by simp
  have lA : OL (w6.alloc (.cells #[] 3)).drew w6.heap.size (.slice (some ⟨w6.heap.size, 0, none⟩) 0 0) [] := OL.lit w6 [] (by simp)
  have lB1 : OL ((w6.alloc (.cells #[] 3)).alloc (.cells #[] 3)).drew w6.heap.size (.slice (some ⟨w6.heap.size, 0, none⟩) 0 0) [] := (OL.lit w6 [] (by simp)).grow (Grow.box (w6.alloc (.cells #[] 3)) (.cells #[] 3)).drew
  have lB2 : OL ((w6.alloc (.cells #[] 3)).alloc (.cells #[] 3)).drew w6.heap.size (.slice (some ⟨w6.heap.size + 1, 0, none⟩) 0 0) [] := by
    have h1 := (OL.lit (w6.alloc (.cells #[] 3)) [] (by simp)).lower (b' := w6.heap.size) (by simp)
    rw [hs1] at h1
    exact h1
  have ap1 : ∀ k, (Value.slice (some ⟨w6.heap.size, 0, none⟩) 0 0).ownBlock = some k → k = w6.heap.size := fun k e => lit_own e
  have ap2 : ∀ k, (Value.slice (some ⟨w6.heap.size + 1, 0, none⟩) 0 0).ownBlock = some k → k = w6.heap.size + 1 := fun k e => by
    have := lit_own (W := w6.alloc (.cells #[] 3)) (k := k) (by rw [hs1]; exact e)
    omega
  have hzs : z < w6.heap.size := by have := cc.size; omega
  obtain ⟨vA, WA, rA1, oA1, qA1, -⟩ := app_more (c0 := n - K2) gA lA (RR.out _ (cc.trans gA)) (by have := HRD.out; simp; omega)
  obtain ⟨aA, cA, rfl⟩ := own_len oA1
  have gA2 : Grow WA (WA.alloc (.cells #[] 3)) := Grow.box WA (.cells #[] 3)
  have lA2 : OL (WA.alloc (.cells #[] 3)) WA.heap.size (.slice (some ⟨WA.heap.size, 0, none⟩) 0 0) [] := OL.lit WA [] (by simp)
  obtain ⟨vA2, VA, rA2, oA2, qA2, -⟩ := app_more (c0 := n - K3) gA2 lA2 (RD.out _ ((cc.trans qA1).trans gA2)) (by have := HRD.out; simp; omega)
  obtain ⟨bA, dA, rfl⟩ := own_len oA2
  simp only [List.nil_append] at rA1 oA1 rA2 oA2
  obtain ⟨aB, cB, WB, bB, dB, VB, rB1, rB2, oB1, oB2, qB1, qB2⟩ := app_two (c1 := n - K2) (c2 := n - K3) gB lB1 lB2 (fun k e1 e2 => by have := ap1 k e1; have := ap2 k e2; omega) (RR.out _ (cc.trans gB)) (RD.out _ (cc.trans gB)) (fun x e => by injection e with e; subst e; exact hzs) HRD.out.1 HRD.out.2
  obtain ⟨aC, cC, WC, bC, dC, VC, rC1, rC2, oC1, oC2, qC1, qC2⟩ := app_two (c1 := n - K2) (c2 := n - K3) gB lB2 lB1 (fun k e1 e2 => by have := ap2 k e1; have := ap1 k e2; omega) (RR.out _ (cc.trans gB)) (RD.out _ (cc.trans gB)) (fun x e => by injection e with e; subst e; exact hzs) HRD.out.1 HRD.out.2
  have nsr : s ≠ r := hs.ne_ hr (by decide)
  have nhr : hb ≠ r := hh.ne_ hr (by decide)
  have HSC := hide (fun W (c : Chg (· = r) w6 W) => show W.cell? ⟨s, 0, none⟩ = some (ptr q) ∧ W.cell? ⟨q, 0, none⟩ = some (.slice (some ⟨z, 0, none⟩) n n) ∧ W.cell? ⟨z, K1, none⟩ = some (.int .i64 l) ∧ W.cell? ⟨hb, 0, none⟩ = some (.int .i64 C) ∧ W.cell? ⟨hb, 1, none⟩ = some (.int .i64 A) ∧ W.cell? ⟨hb, 2, none⟩ = some (.int .i64 F) ∧ W.cell? ⟨hb, 3, none⟩ = some (.bool m) ∧ W.cell? ⟨hb, 4, none⟩ = some (.bool f) ∧ W.cell? ⟨hb, 5, none⟩ = some (.bool d) from
    have gW : Grow w W := cc.step c (fun i hi e => by have h1 : w.heap.size ≤ r := fr; omega)
    ⟨(hs.chg c nsr).cell 0, (HCE.out _ gW).1, (HCE.out _ gW).2, (hh.chg c nhr).cell 0, (hh.chg c nhr).cell 1, (hh.chg c nhr).cell 2, (hh.chg c nhr).cell 3, (hh.chg c nhr).cell 4, (hh.chg c nhr).cell 5⟩)
  have HSG := hide (fun W (c : Grow w6 W) => HSC.out W (c.mono fun _ _ h => h.elim))
  have hk0 := hide (HSG.out w6 (Chg.refl _ _))
  have hk1 := hide (HSG.out w6.drew (Chg.drew (Chg.refl _ _)))
  have hk2 := hide (HSG.out _ gA)
  have hk3 := hide (HSG.out _ gB)
  have hk2' := hide (HSG.out (w6.drew.alloc (.cells #[] 3)) gA)
  have hk3' := hide (HSG.out ((w6.drew.alloc (.cells #[] 3)).alloc (.cells #[] 3)) gB)
  have hk4 := hide (HSG.out _ qA1)
  have hk5 := hide (HSG.out _ (qA1.trans gA2))
  have hk6 := hide (HSG.out _ (qA1.trans qA2))
  have hk7 := hide (HSG.out _ qB1)
  have hk8 := hide (HSG.out _ qB2)
  have hk9 := hide (HSG.out _ qC1)
  have hk10 := hide (HSG.out _ qC2)
  have hkA := hide (HSC.out _ (chg9 (g := r) ((qA1.trans qA2).mono fun _ _ h => h.elim) (.int .i64 C) (.int .i64 A) (.int .i64 F) (.bool m) (.bool f) (.bool d) (.int .i64 l) (.slice aA rs.length cA) (.slice bA ds.length dA)))
  have hkB := hide (HSC.out _ (chg9 (g := r) (qB2.mono fun _ _ h => h.elim) (.int .i64 C) (.int .i64 A) (.int .i64 F) (.bool m) (.bool f) (.bool d) (.int .i64 l) (.slice aB rs.length cB) (.slice bB ds.length dB)))
  have hkC := hide (HSC.out _ (chg9 (g := r) (qC2.mono fun _ _ h => h.elim) (.int .i64 C) (.int .i64 A) (.int .i64 F) (.bool m) (.bool f) (.bool d) (.int .i64 l) (.slice aC rs.length cC) (.slice bC ds.length dC)))
  have KrA1 := hide rA1
  have KrA1' : Hid ((Builtin.append_ #[37, 37] 37 #[.slice (some ⟨w6.heap.size, 0, none⟩) 0 0, .slice (some ⟨z, K2, none⟩) R (n - K2)]).run Tryz.prog (w6.drew.alloc (.cells #[] 3)) = .ok (.slice aA rs.length cA) WA) := rA1
  have KrA2' := hide rA2
  have KrB1' : Hid ((Builtin.append_ #[37, 37] 37 #[.slice (some ⟨w6.heap.size, 0, none⟩) 0 0, .slice (some ⟨z, K2, none⟩) R (n - K2)]).run Tryz.prog ((w6.drew.alloc (.cells #[] 3)).alloc (.cells #[] 3)) = .ok (.slice aB rs.length cB) WB) := rB1
  have KrB2' := hide rB2
  have KrC1' : Hid ((Builtin.append_ #[37, 37] 37 #[.slice (some ⟨w6.heap.size + 1, 0, none⟩) 0 0, .slice (some ⟨z, K2, none⟩) R (n - K2)]).run Tryz.prog ((w6.drew.alloc (.cells #[] 3)).alloc (.cells #[] 3)) = .ok (.slice aC rs.length cC) WC) := rC1
  have KrC2' := hide rC2
  have KrA2 := hide rA2
  have KrB1 := hide rB1
  have KrB2 := hide rB2
  have KrC1 := hide rC1
  have KrC2 := hide rC2
  have HOA := hide (And.intro oA1 (And.intro oA2 (And.intro qA1 qA2)))
  have HOB := hide (And.intro oB1 (And.intro oB2 qB2))
  have HOC := hide (And.intro oC1 (And.intro oC2 qC2))
  have HRVA := hide (hr.chg (qA1.trans qA2) id)
  have HRVB := hide (hr.chg qB2 id)
  have HRVC := hide (hr.chg qC2 id)
  have HCC := hide cc
  have HRL := hide (show r < w6.heap.size from hr.lt)
  clear rA1 rA2 rB1 rB2 rC1 rC2 oA1 oA2 qA1 qA2 oB1 oB2 qB1 qB2 oC1 oC2 qC1 qC2 gA gB lA lB1 lB2 ap1 ap2 hs hh hr cc gA2 hs1
  go_region_held3 (fun W => W.cell? ⟨s, 0, none⟩ = some (ptr q) ∧ W.cell? ⟨q, 0, none⟩ = some (.slice (some ⟨z, 0, none⟩) n n) ∧ W.cell? ⟨z, K1, none⟩ = some (.int .i64 l) ∧ W.cell? ⟨hb, 0, none⟩ = some (.int .i64 C) ∧ W.cell? ⟨hb, 1, none⟩ = some (.int .i64 A) ∧ W.cell? ⟨hb, 2, none⟩ = some (.int .i64 F) ∧ W.cell? ⟨hb, 3, none⟩ = some (.bool m) ∧ W.cell? ⟨hb, 4, none⟩ = some (.bool f) ∧ W.cell? ⟨hb, 5, none⟩ = some (.bool d))
    (first | with_reducible exact hk0.out | with_reducible exact hk1.out | with_reducible exact hk2.out | with_reducible exact hk2'.out | with_reducible exact hk3.out | with_reducible exact hk3'.out | with_reducible exact hk4.out | with_reducible exact hk5.out | with_reducible exact hk6.out | with_reducible exact hk7.out | with_reducible exact hk8.out | with_reducible exact hk9.out | with_reducible exact hk10.out | with_reducible exact hkA.out | with_reducible exact hkB.out | with_reducible exact hkC.out)
    (first
      | (refine step_app (by rfl) _ _ _ (by rfl) (.slice (some ⟨w6.heap.size, 0, none⟩) 0 0) (.slice (some ⟨z, K2, none⟩) R (n - K2)) (.slice aA rs.length cA) WA (by rfl) (by rfl) (by first | with_reducible exact KrA1.out | with_reducible exact KrA1'.out) ?_)
      | (refine step_app (by rfl) _ _ _ (by rfl) (.slice (some ⟨WA.heap.size, 0, none⟩) 0 0) (.slice (some ⟨z, K3, none⟩) D (n - K3)) (.slice bA ds.length dA) VA (by rfl) (by rfl) (by first | with_reducible exact KrA2.out | with_reducible exact KrA2'.out) ?_; (obtain ⟨f0, f1, f2, f3, f4, f5, f6, f7, f8⟩ := fr9 HRVA.out); (obtain ⟨z0, z1, z2, z3, z4, z5, z6, z7, z8⟩ := ce9 HRVA.out))
      | (refine step_app (by rfl) _ _ _ (by rfl) (.slice (some ⟨w6.heap.size, 0, none⟩) 0 0) (.slice (some ⟨z, K2, none⟩) R (n - K2)) (.slice aB rs.length cB) WB (by rfl) (by rfl) (by first | with_reducible exact KrB1.out | with_reducible exact KrB1'.out) ?_)
      | (refine step_app (by rfl) _ _ _ (by rfl) (.slice (some ⟨w6.heap.size + 1, 0, none⟩) 0 0) (.slice (some ⟨z, K3, none⟩) D (n - K3)) (.slice bB ds.length dB) VB (by rfl) (by rfl) (by first | with_reducible exact KrB2.out | with_reducible exact KrB2'.out) ?_; (obtain ⟨f0, f1, f2, f3, f4, f5, f6, f7, f8⟩ := fr9 HRVB.out); (obtain ⟨z0, z1, z2, z3, z4, z5, z6, z7, z8⟩ := ce9 HRVB.out))
      | (refine step_app (by rfl) _ _ _ (by rfl) (.slice (some ⟨w6.heap.size + 1, 0, none⟩) 0 0) (.slice (some ⟨z, K2, none⟩) R (n - K2)) (.slice aC rs.length cC) WC (by rfl) (by rfl) (by first | with_reducible exact KrC1.out | with_reducible exact KrC1'.out) ?_)
      | (refine step_app (by rfl) _ _ _ (by rfl) (.slice (some ⟨w6.heap.size, 0, none⟩) 0 0) (.slice (some ⟨z, K3, none⟩) D (n - K3)) (.slice bC ds.length dC) VC (by rfl) (by rfl) (by first | with_reducible exact KrC2.out | with_reducible exact KrC2'.out) ?_; (obtain ⟨f0, f1, f2, f3, f4, f5, f6, f7, f8⟩ := fr9 HRVC.out); (obtain ⟨z0, z1, z2, z3, z4, z5, z6, z7, z8⟩ := ce9 HRVC.out))
      | fail)
  · have hb9 := put9 HRVA.out (.int .i64 C) (.int .i64 A) (.int .i64 F) (.bool m) (.bool f) (.bool d) (.int .i64 l) (.slice aA rs.length cA) (.slice bA ds.length dA)
    have c9 := chg9 (g := r) (Chg.refl _ VA) (.int .i64 C) (.int .i64 A) (.int .i64 F) (.bool m) (.bool f) (.bool d) (.int .i64 l) (.slice aA rs.length cA) (.slice bA ds.length dA)
    have o1 := HOA.out.1.grow HOA.out.2.2.2
    have o2 := HOA.out.2.1.lower (b' := w6.heap.size) HOA.out.2.2.1.size
    have cg := HCC.out.trans (HOA.out.2.2.1.trans HOA.out.2.2.2)
    have n9 := new9 fr cg (.int .i64 C) (.int .i64 A) (.int .i64 F) (.bool m) (.bool f) (.bool d) (.int .i64 l) (.slice aA rs.length cA) (.slice bA ds.length dA)
    replace o1 := o1.chg c9 (fun j e h => by have := (o1.lt j e).1; have := HRL.out; omega)
    replace o2 := o2.chg c9 (fun j e h => by have := (o2.lt j e).1; have := HRL.out; omega)
    replace o1 := o1.lower (b' := s) hsw6
    replace o2 := o2.lower (b' := s) hsw6
    have HF := hide (And.intro o1 (And.intro o2 n9))
    clear c9 cg o1 o2 n9 f0 f1 f2 f3 f4 f5 f6 f7 f8 z0 z1 z2 z3 z4 z5 z6 z7 z8
    generalize (((((((((VA.setCell ⟨r, 0, none⟩ (.int .i64 C)).setCell ⟨r, 1, none⟩ (.int .i64 A)).setCell ⟨r, 2, none⟩ (.int .i64 F)).setCell ⟨r, 3, none⟩ (.bool m)).setCell ⟨r, 4, none⟩ (.bool f)).setCell ⟨r, 5, none⟩ (.bool d)).setCell ⟨r, 6, none⟩ (.int .i64 l)).setCell ⟨r, 7, none⟩ (.slice aA rs.length cA)).setCell ⟨r, 8, none⟩ (.slice bA ds.length dA)) = w8 at *
    obtain ⟨z0, z1, z2, z3, z4, z5, z6, z7, z8⟩ := ce9 hb9
    go_wp2
    refine bodyPost_ret (v := .agg #[.int .i64 C, .int .i64 A, .int .i64 F, .bool m, .bool f, .bool d, .int .i64 l, .slice aA rs.length cA, .slice bA ds.length dA]) (by simp [results, Tryz.results51, go_sem, z0, z1, z2, z3, z4, z5, z6, z7, z8]) rfl ?_
    exact ⟨_, _, rfl, by rw [hsw]; exact HF.out.1, by rw [hsw]; exact HF.out.2.1, HF.out.2.2⟩
  · have hb9 := put9 HRVB.out (.int .i64 C) (.int .i64 A) (.int .i64 F) (.bool m) (.bool f) (.bool d) (.int .i64 l) (.slice aB rs.length cB) (.slice bB ds.length dB)
    have c9 := chg9 (g := r) (Chg.refl _ VB) (.int .i64 C) (.int .i64 A) (.int .i64 F) (.bool m) (.bool f) (.bool d) (.int .i64 l) (.slice aB rs.length cB) (.slice bB ds.length dB)
    have o1 := HOB.out.1
    have o2 := HOB.out.2.1
    have cg := HCC.out.trans HOB.out.2.2
    have n9 := new9 fr cg (.int .i64 C) (.int .i64 A) (.int .i64 F) (.bool m) (.bool f) (.bool d) (.int .i64 l) (.slice aB rs.length cB) (.slice bB ds.length dB)
    replace o1 := o1.chg c9 (fun j e h => by have := (o1.lt j e).1; have := HRL.out; omega)
    replace o2 := o2.chg c9 (fun j e h => by have := (o2.lt j e).1; have := HRL.out; omega)
    replace o1 := o1.lower (b' := s) hsw6
    replace o2 := o2.lower (b' := s) hsw6
    have HF := hide (And.intro o1 (And.intro o2 n9))
    clear c9 cg o1 o2 n9 f0 f1 f2 f3 f4 f5 f6 f7 f8 z0 z1 z2 z3 z4 z5 z6 z7 z8
    generalize (((((((((VB.setCell ⟨r, 0, none⟩ (.int .i64 C)).setCell ⟨r, 1, none⟩ (.int .i64 A)).setCell ⟨r, 2, none⟩ (.int .i64 F)).setCell ⟨r, 3, none⟩ (.bool m)).setCell ⟨r, 4, none⟩ (.bool f)).setCell ⟨r, 5, none⟩ (.bool d)).setCell ⟨r, 6, none⟩ (.int .i64 l)).setCell ⟨r, 7, none⟩ (.slice aB rs.length cB)).setCell ⟨r, 8, none⟩ (.slice bB ds.length dB)) = w8 at *
    obtain ⟨z0, z1, z2, z3, z4, z5, z6, z7, z8⟩ := ce9 hb9
    go_wp2
    refine bodyPost_ret (v := .agg #[.int .i64 C, .int .i64 A, .int .i64 F, .bool m, .bool f, .bool d, .int .i64 l, .slice aB rs.length cB, .slice bB ds.length dB]) (by simp [results, Tryz.results51, go_sem, z0, z1, z2, z3, z4, z5, z6, z7, z8]) rfl ?_
    exact ⟨_, _, rfl, by rw [hsw]; exact HF.out.1, by rw [hsw]; exact HF.out.2.1, HF.out.2.2⟩
  · have hb9 := put9 HRVC.out (.int .i64 C) (.int .i64 A) (.int .i64 F) (.bool m) (.bool f) (.bool d) (.int .i64 l) (.slice aC rs.length cC) (.slice bC ds.length dC)
    have c9 := chg9 (g := r) (Chg.refl _ VC) (.int .i64 C) (.int .i64 A) (.int .i64 F) (.bool m) (.bool f) (.bool d) (.int .i64 l) (.slice aC rs.length cC) (.slice bC ds.length dC)
    have o1 := HOC.out.1
    have o2 := HOC.out.2.1
    have cg := HCC.out.trans HOC.out.2.2
    have n9 := new9 fr cg (.int .i64 C) (.int .i64 A) (.int .i64 F) (.bool m) (.bool f) (.bool d) (.int .i64 l) (.slice aC rs.length cC) (.slice bC ds.length dC)
    replace o1 := o1.chg c9 (fun j e h => by have := (o1.lt j e).1; have := HRL.out; omega)
    replace o2 := o2.chg c9 (fun j e h => by have := (o2.lt j e).1; have := HRL.out; omega)
    replace o1 := o1.lower (b' := s) hsw6
    replace o2 := o2.lower (b' := s) hsw6
    have HF := hide (And.intro o1 (And.intro o2 n9))
    clear c9 cg o1 o2 n9 f0 f1 f2 f3 f4 f5 f6 f7 f8 z0 z1 z2 z3 z4 z5 z6 z7 z8
    generalize (((((((((VC.setCell ⟨r, 0, none⟩ (.int .i64 C)).setCell ⟨r, 1, none⟩ (.int .i64 A)).setCell ⟨r, 2, none⟩ (.int .i64 F)).setCell ⟨r, 3, none⟩ (.bool m)).setCell ⟨r, 4, none⟩ (.bool f)).setCell ⟨r, 5, none⟩ (.bool d)).setCell ⟨r, 6, none⟩ (.int .i64 l)).setCell ⟨r, 7, none⟩ (.slice aC rs.length cC)).setCell ⟨r, 8, none⟩ (.slice bC ds.length dC)) = w8 at *
    obtain ⟨z0, z1, z2, z3, z4, z5, z6, z7, z8⟩ := ce9 hb9
    go_wp2
    refine bodyPost_ret (v := .agg #[.int .i64 C, .int .i64 A, .int .i64 F, .bool m, .bool f, .bool d, .int .i64 l, .slice aC rs.length cC, .slice bC ds.length dC]) (by simp [results, Tryz.results51, go_sem, z0, z1, z2, z3, z4, z5, z6, z7, z8]) rfl ?_
    exact ⟨_, _, rfl, by rw [hsw]; exact HF.out.1, by rw [hsw]; exact HF.out.2.1, HF.out.2.2⟩
end
end Go.Proofs.YtogfjclmohpjkaaGreatDoor.L15
