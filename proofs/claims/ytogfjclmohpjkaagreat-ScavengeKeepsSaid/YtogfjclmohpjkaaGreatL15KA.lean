/- Made, whatever the world; a life in its variable; awake answers true. Conditions: none. -/
import Derived.Test.YtogfjclmohpjkaaGreatL15An
import Derived.Deep.WholeRow
import Derived.Deep.Cut
import Derived.Test.YtogfjclmohpjkaaGreatL15Md
import Derived.Test.YtogfjclmohpjkaaGreatL15Bd
import Derived.Test.YtogfjclmohpjkaaGreatL15Bp
import Derived.Test.YtogfjclmohpjkaaGreatL15At
namespace Go.Proofs.YtogfjclmohpjkaaGreat.L15
open Go.ChangeShapes Go.WideShapes Go.ChangeAt Go.RowKit
open Go.Proofs.YtogfjclmohpjkaaGreat.L1 (ptr Ar)
open Go.Proofs.YtogfjclmohpjkaaGreat.L5 (Cl IsCls newX Tb)
open Go.Proofs.YtogfjclmohpjkaaGreat.L6 (stV St)
open Go.Proofs.YtogfjclmohpjkaaGreat.L7 (Ct)
open Go.Proofs.YtogfjclmohpjkaaGreat.L3 (no)
set_option linter.unusedVariables false
set_option maxRecDepth 100000
/-- What made answers. -/
def MadeQ (w : World) (u : Wo) (cs : List Cl) (gs : List Tg) (ts : List Tr) (zs : List Int) (CL : List Value) (ok : Bool) (w' : World) : Prop :=
  (ok = false ∧ ¬ good u cs) ∨ (ok = true ∧ good u cs ∧ ∃ xs z yl b tp g pc mc gc av rv, CL = lfCs b tp (finF cs (u.hf % 101) (u.th % 8) gs ts zs).y av rv pc (.slice u.ca u.cl u.cc) ∧ Mde w w' (finF cs (u.hf % 101) (u.th % 8) gs ts zs) (fin0 cs (u.hf % 101) (u.th % 8) gs ts).zs xs (u.hf % 101) z yl b tp g pc mc gc av rv)
section
variable {w w' W : World} {u : Wo} {cs : List Cl} {gs : List Tg} {ts : List Tr} {zs : List Int}
theorem OL.fm {b : Nat} {v : Value} {xs : List Int} (h : OL w b v xs) : ∃ a n c, v = .slice a n c := by
  obtain ⟨a, c, e, _⟩ := h.form
  exact ⟨a, _, c, e⟩
theorem made_any (h : IsWo w u cs gs ts zs) :
    Calls Tryz.prog 7 #[Wo.v u] w fun e w' => ∃ CL ok, e = .returned (.tuple #[.agg CL.toArray, .bool ok]) ∧ lf0.length = CL.length ∧ (Tryz.prog.info? 39).map (·.size) = some CL.length ∧ CL.toArray.all (·.oneCell') = true ∧ Grow w w' ∧ MadeQ w u cs gs ts zs CL ok w' := by
  by_cases hg : good u cs
  · refine (made_yes h hg).mono ?_
    rintro e w' ⟨xs, z, yl, b, tp, g, pc, mc, gc, av, rv, he, m⟩
    obtain ⟨a1, n1, c1, rfl⟩ := m.al.fm
    obtain ⟨a2, n2, c2, rfl⟩ := m.rl.fm
    exact ⟨_, true, he, rfl, life_sz, life_one b tp _ _ _ a1 n1 c1 a2 n2 c2 pc _ _ _, m.gr, .inr ⟨rfl, hg, xs, z, yl, b, tp, g, pc, mc, gc, _, _, rfl, m⟩⟩
  · refine (made_no h hg).mono ?_
    rintro e w' ⟨he, c⟩
    exact ⟨lf0, false, he, rfl, life_sz, lf0_one, c, .inl ⟨rfl, hg⟩⟩
theorem lf_rc {p b pc : Nat} {tp : Option Addr} {y : Yg} {av rv cv : Value} (h : Blk w p 39 (lfCs b tp y av rv pc cv)) : w.cell? ⟨p, 0, none⟩ = some (.pointer (some ⟨b, 0, none⟩)) ∧ w.cell? ⟨p, 1, none⟩ = some (.pointer tp) ∧ w.cell? ⟨p, 4, none⟩ = some (.int .i64 y.OF) ∧ w.cell? ⟨p, 5, none⟩ = some (.int .i64 y.OT) ∧ w.cell? ⟨p, 6, none⟩ = some (.int .i64 y.OE) ∧ w.cell? ⟨p, 7, none⟩ = some (.int .i64 y.EF) ∧ w.cell? ⟨p, 8, none⟩ = some (.int .i64 y.ET) ∧ w.cell? ⟨p, 9, none⟩ = some (.int .i64 y.EE) ∧ w.cell? ⟨p, 10, none⟩ = some (.int .i64 y.FF) ∧ w.cell? ⟨p, 11, none⟩ = some (.int .i64 y.FT) ∧ w.cell? ⟨p, 12, none⟩ = some (.int .i64 y.FE) ∧ w.cell? ⟨p, 13, none⟩ = some (.int .i64 y.TF) ∧ w.cell? ⟨p, 14, none⟩ = some (.int .i64 y.TT) ∧ w.cell? ⟨p, 15, none⟩ = some (.int .i64 y.TE) ∧ w.cell? ⟨p, 16, none⟩ = some (.int .i64 y.th) ∧ w.cell? ⟨p, 18, none⟩ = some rv ∧ w.cell? ⟨p, 19, none⟩ = some (ptr pc) :=
  ⟨h.cell 0, h.cell 1, h.cell 4, h.cell 5, h.cell 6, h.cell 7, h.cell 8, h.cell 9, h.cell 10, h.cell 11, h.cell 12, h.cell 13, h.cell 14, h.cell 15, h.cell 16, h.cell 18, h.cell 19⟩
theorem rd_nil : L1.Rd w none 0 [] := ⟨rfl, fun h => absurd h (by decide)⟩
end
/-- The world of awake. -/
abbrev awF : Fx := finF [⟨1, 0, 1, false⟩] 50 1 [⟨0, 0, 0, 7⟩] [] [1]
theorem aw_y : awF.y = ⟨1, 1, 401, 401, 404, 601, 601, 601, 651, 651, 651, 701, 1⟩ := by rfl
theorem aw_l : awF.zs = [401] ∧ awF.OS = [] ∧ awF.YE = [401] ∧ awF.YF = [] ∧ (awF.ob 401).A = 0 ∧ (awF.ob 401).sz = 3 := by
  refine ⟨by rfl, by rfl, by rfl, by rfl, by rfl, by rfl⟩
theorem aw_run {s : Mst} {xs0 : List Int} {r : Int} (wf : Wf awF xs0) (h : Inv awF s) (hl : Led awF.y s.mv 401 r) : r = 651 ∧ s.ot = 1 ∧ s.tt = 654 := by
  obtain ⟨l1, l2, l3, l4, l5, l6⟩ := aw_l
  have hY : awF.YS = [401] := by show awF.YE ++ awF.YF = _; rw [l3, l4]; rfl
  have hin : (401 : Int) ∈ awF.YS := by rw [hY]; simp
  rcases hl with ⟨h1, _⟩ | ⟨_, h2, h3⟩
  · rw [wf.yin hin] at h1; cases h1
  have hM : (401 : Int) ∈ s.M := Classical.byContradiction fun hn => h3 (by rw [← h2]; exact (h.notM wf hin).2 hn)
  obtain ⟨_, m2, m3, _⟩ := h.mm _ hM
  rw [h2] at m2 m3
  have hsm := h.sm
  have hMl := szs_sub (ob := awF.ob) h.nd (fun x hx => (h.mm x hx).1)
  have hMg := szs_sub (ob := awF.ob) (M := [401]) (L := s.M) (by simp) (by simpa using hM)
  rw [hY] at hMl
  rw [szs_cons, szs_nil, l6] at hMl hMg
  have ho := h.oo
  have ht := h.tlo
  have hbnd : (s.ot - 1) + (s.tt - 651) = 3 ∧ 1 ≤ s.ot ∧ 651 ≤ s.tt := by
    rw [aw_y] at hsm ho ht
    dsimp only at hsm ho ht
    omega
  rcases List.mem_append.1 m2 with m2 | m2
  · have := h.pl _ m2 (by rw [m3, l5, aw_y]; decide)
    rw [m3, l6, aw_y] at this
    dsimp only at this
    omega
  · have hb := h.st.bd m2
    have hz := (h.im r (List.mem_append_right _ m2)).sz
    rw [m3, l6] at hz
    rw [hz, aw_y] at hb
    dsimp only at hb
    omega
theorem aw_wo (w : World) : IsWo (((w.alloc (.cells [.int .i64 1, .int .i64 0, .int .i64 1, .bool false].toArray 84)).alloc (.cells [.int .u8 0, .int .u8 0, .int .u8 0, .int .u8 7].toArray 67)).alloc (.cells [.int .u8 1].toArray 5)) ⟨some ⟨w.heap.size, 0, none⟩, 1, 1, some ⟨w.heap.size + 1, 0, none⟩, 1, 1, none, 0, 0, some ⟨w.heap.size + 1 + 1, 0, none⟩, 1, 1, 50, 1⟩ [⟨1, 0, 1, false⟩] [⟨0, 0, 0, 7⟩] [] [1] := by
  obtain ⟨h1, h2, h3, -, -, -, -, -, -, -⟩ := boxes3 w 84 [.int .i64 1, .int .i64 0, .int .i64 1, .bool false] 67 [.int .u8 0, .int .u8 0, .int .u8 0, .int .u8 7] 5 [.int .u8 1]
  refine ⟨L5.IsCls.one (c := ⟨1, 0, 1, false⟩) h1 (by decide), ⟨rfl, Nat.le_refl _, by simp [maxLen], fun _ => ⟨_, 0, rfl, fun i t hi j c hj => ?_⟩, fun t ht => ?_⟩, ⟨rfl, Nat.le_refl _, by simp [maxLen], fun h => absurd (show (0 : Nat) < 0 from h) (by decide), fun t ht => by cases ht⟩, ⟨rfl, Nat.le_refl _, by simp [maxLen], fun _ => ⟨_, rfl, fun i hi => ?_⟩, fun n hn => ?_⟩, show (0 : Int) ≤ 50 ∧ (50 : Int) ≤ 255 by decide, show (0 : Int) ≤ 1 ∧ (1 : Int) ≤ 255 by decide⟩
  · cases i with
    | zero =>
      simp at hi
      subst hi
      match j, hj with
      | 0, hj => simp [Tg.cells] at hj; subst hj; exact h2.cell 0
      | 1, hj => simp [Tg.cells] at hj; subst hj; exact h2.cell 1
      | 2, hj => simp [Tg.cells] at hj; subst hj; exact h2.cell 2
      | 3, hj => simp [Tg.cells] at hj; subst hj; exact h2.cell 3
      | j + 4, hj => simp [Tg.cells] at hj
    | succ i => simp at hi
  · simp at ht
    subst ht
    exact ⟨by decide, by decide, by decide, by decide⟩
  · obtain rfl : i = 0 := by simp at hi; omega
    rw [addr_add]
    exact h3.cell 0
  · simp at hn
    subst hn
    decide
set_option maxHeartbeats 4000000 in
theorem awake_any (w : World) : Calls Tryz.prog 8 #[] w fun e w' => e = .returned (.bool true) ∧ Grow w w' := by
  have HM := hide (made_any (aw_wo w))
  obtain ⟨-, -, -, cc, -, -, -, -, -, -⟩ := boxes3 w 84 [.int .i64 1, .int .i64 0, .int .i64 1, .bool false] 67 [.int .u8 0, .int .u8 0, .int .u8 0, .int .u8 7] 5 [.int .u8 1]
  go_enter Tryz.func8, Tryz.ntmps8
  go_wp2_with fail
  refine HM.out.mono ?_
  rintro e w3 ⟨CL, ok, rfl, hln, h21, hone, c3, hq⟩
  have HQ := hide hq
  have HG := hide (cc.trans c3)
  have cc0 := cc
  have HLN := hide hln
  have H21 := hide h21
  have HONE := hide hone
  have HBL := hide (Blk.new w3 39 lf0)
  clear hq cc c3 hln h21 hone HM
  go_upto_region 2 with (refine wpList_store_row rfl 39 _ _ rfl w3.heap.size CL.toArray (by rfl) (by rfl) 39 lf0.toArray HBL.out H21.out HLN.out HONE.out ?_)
  obtain ⟨hp, gp⟩ := new_life w3 CL
  clear HBL H21 HLN HONE
  generalize (w3.alloc (.cells lf0.toArray 39)).setRow w3.heap.size CL.toArray = w4 at *
  generalize hpe : w3.heap.size = p at *
  have HG4 := hide (HG.out.trans gp)
  rcases HQ.out with ⟨-, hbad⟩ | ⟨rfl, -, xs, z, yl, b, tp, g, pc, mc, gc, av, rv, rfl, m⟩
  · exact absurd ⟨show (1 : Nat) ≤ 60 by decide, show (0 : Nat) ≤ 200 by decide, show (1 : Nat) ≤ 20 by decide, show (0 : Nat) < 1 by decide, show (1 : Nat) ≤ 63 by decide, by decide⟩ hbad
  have e0 : finF [⟨1, 0, 1, false⟩] ((50 : Int) % 101) ((1 : Int) % 8) [⟨0, 0, 0, 7⟩] [] [1] = awF := by rfl
  dsimp only at m hp
  rw [e0] at m hp
  obtain ⟨ra, rc, rfl, hrd⟩ := (m.rl.grow gp).form
  have hr0 := m.run (zs' := awF.zs) (rc := rc) gp hrd (by rw [aw_l.1]; decide) (m.zr)
  clear HQ e0
  have wf := m.wf
  have hpl := m.pl
  have hgz := m.lo.gz
  have hsz := cc0.size
  have HP := hide (show ¬ p = g ∧ ¬ p = gc ∧ w.heap.size ≤ g ∧ w.heap.size ≤ gc from ⟨by omega, by omega, by omega, by omega⟩)
  clear hpl hgz hsz
  have hl := aw_l
  have hy := aw_y
  have hrun := fun s r => @aw_run s xs r wf
  generalize awF = F at *
  obtain ⟨l1, l2, l3, l4, l5, l6⟩ := hl
  have hF : F.zs.length = 1 := by rw [l1]; rfl
  rw [hF] at hp hr0
  have HR := hide hr0
  have HH := hide hp
  have HRUN := hide hrun
  have HWF := hide wf
  obtain ⟨c0, c1, c4, c5, c6, c7, c8, c9, c10, c11, c12, c13, c14, c15, c16, c18, c19⟩ := lf_rc hp
  clear hp m hrd l2 l3 l4 l5 l6
  have HY := hide hy
  have HL1 := hide l1
  clear hy l1 hF hr0 hrun wf hpe cc0
  go_wp2_with fail
  clear c0 c1 c4 c5 c6 c7 c8 c9 c10 c11 c12 c13 c14 c15 c16 c18 c19
  refine HR.out.mono ?_
  rintro e w6 (⟨hf, -⟩ | ⟨-, v, rs, s, rfl, R⟩)
  · exfalso
    rw [HY.out] at hf
    dsimp only at hf
    omega
  have hn : rs.length = 1 := by rw [R.n]; show F.zs.length = 1; rw [HL1.out]; rfl
  have h1 := R.rs 0 (by show 0 < F.zs.length; rw [HL1.out]; decide)
  obtain ⟨e1, e2, e3⟩ := HRUN.out s (rs.getD 0 0) R.i (by
    have h2 : Led F.y s.mv (F.zs.getD 0 0) (rs.getD 0 0) := h1
    rw [HL1.out] at h2
    exact h2)
  have hol := R.ol
  obtain ⟨ga, gc', rfl, -, -⟩ := hol.pos (by omega)
  have a0 := hol.cell (k := 0) (by omega)
  rw [e1] at a0
  rw [hn]
  have ev : (F.y.aft s.ot s.tt).v = .agg #[.int .i64 1, .int .i64 1, .int .i64 401, .int .i64 401, .int .i64 401, .int .i64 601, .int .i64 651, .int .i64 654, .int .i64 701, .int .i64 601, .int .i64 601, .int .i64 651, .int .i64 1] := by rw [HY.out, e2, e3]
  rw [ev]
  have HPP := HP.out
  have hp6 := HH.out.chg R.c (show ¬ (p = g ∨ p = gc) by omega)
  have HG6 := hide (HG4.out.step R.c (fun i hi e => by have e' : i = g ∨ i = gc := e; omega))
  rw [HY.out] at hp6
  have HP6 := hide hp6
  clear R h1 e1 e2 e3 hol hn ev hp6 HPP HH HR HRUN HP
  go_upto_region 5 with fail
  have hq := Blk.new w6 35 [.int .i64 1, .int .i64 1, .int .i64 401, .int .i64 401, .int .i64 401, .int .i64 601, .int .i64 651, .int .i64 654, .int .i64 701, .int .i64 601, .int .i64 601, .int .i64 651, .int .i64 1]
  have gq := Grow.box w6 (.cells [.int .i64 1, .int .i64 1, .int .i64 401, .int .i64 401, .int .i64 401, .int .i64 601, .int .i64 651, .int .i64 654, .int .i64 701, .int .i64 601, .int .i64 601, .int .i64 651, .int .i64 1].toArray 35)
  have HG7 := hide (HG6.out.trans gq)
  have p13 : (w6.alloc (.cells #[.int .i64 1, .int .i64 1, .int .i64 401, .int .i64 401, .int .i64 401, .int .i64 601, .int .i64 651, .int .i64 654, .int .i64 701, .int .i64 601, .int .i64 601, .int .i64 651, .int .i64 1] 35)).cell? ⟨p, 13, none⟩ = some (.int .i64 651) := (HP6.out.chg gq id).cell 13
  replace a0 := gq.cell a0
  clear gq
  generalize w6.alloc (.cells #[.int .i64 1, .int .i64 1, .int .i64 401, .int .i64 401, .int .i64 401, .int .i64 601, .int .i64 651, .int .i64 654, .int .i64 701, .int .i64 601, .int .i64 601, .int .i64 651, .int .i64 1] 35) = w7 at *
  generalize w6.heap.size = q at *
  obtain ⟨-, -, -, y3, y4, y5, y6, y7, y8, -⟩ : YC w7 q ⟨1, 1, 401, 401, 401, 601, 651, 654, 701, 601, 601, 651, 1⟩ := hq.yc
  clear hq HP6 HY HL1 HWF HG6
  refine wp_region_grow (by kernel_rfl) (by kernel_rfl) ?_
  repeat (
    with_reducible refine wpQuiet_step ?_
    intro K hK
    first
      | ((with_reducible refine quiet_offT rfl ?_ (hK _ ?_)); focus (refine ⟨_, rfl, ?_⟩; with_reducible rfl))
      | ((with_reducible refine quiet_offF rfl ?_ (hK _ ?_)); focus (refine ⟨_, rfl, ?_⟩; with_reducible rfl))
      | ((with_reducible refine quiet_offN rfl ?_ (hK _ ?_)); focus (exact rfl))
      | ((first | with_reducible refine quiet_free rfl ?_ | ((with_reducible refine quiet_on rfl ?_ ?_); focus (refine ⟨_, rfl, ?_⟩; with_reducible rfl)))
         apply Exists.intro
         refine ⟨fun Wq hW => ?_, hK _ ?_⟩
         focus (have q0 := Grow.cell hW a0; have q1 := Grow.cell hW p13; have q2 := Grow.cell hW y3; have q3 := Grow.cell hW y4; have q4 := Grow.cell hW y5; have q5 := Grow.cell hW y6; have q6 := Grow.cell hW y7; have q7 := Grow.cell hW y8; go_simp; first | done | with_reducible rfl | (go_at_call 14; (first | with_reducible exact grown_call hW (L2.used_is 401 401 601 _ (by decide) (v := 0) (by decide)) | with_reducible exact grown_same hW (L2.used_is 401 401 601 _ (by decide) (v := 0) (by decide)))) | (go_at_call 14; (first | with_reducible exact grown_call hW (L2.used_is 651 654 701 _ (by decide) (v := 3) (by decide)) | with_reducible exact grown_same hW (L2.used_is 651 654 701 _ (by decide) (v := 3) (by decide))))))
    clear hK K
    simp only [Act.put, List.setIfInBounds_toArray, List.set_cons_zero, List.set_cons_succ])
  with_reducible refine wpQuiet_nil ?_
  intro w8 c8
  have HG8 := hide (HG7.out.trans c8)
  clear c8 a0 p13 y3 y4 y5 y6 y7 y8
  go_wp2
  go_ret
  exact ⟨rfl, HG8.out⟩
end Go.Proofs.YtogfjclmohpjkaaGreat.L15
/- Canon of a world that stands; two appends behind one another. Conditions: its objects end ahead of the last word. -/
namespace Go.Proofs.YtogfjclmohpjkaaGreat.L15
open Go.ChangeShapes Go.WideShapes Go.ChangeAt Go.RowKit
open Go.Proofs.YtogfjclmohpjkaaGreat.L1 (ptr Ar RAr)
open Go.Proofs.YtogfjclmohpjkaaGreat.L5 (Cl IsCls newX Tb)
open Go.Proofs.YtogfjclmohpjkaaGreat.L6 (stV St)
open Go.Proofs.YtogfjclmohpjkaaGreat.L7 (Ct)
set_option linter.unusedVariables false
set_option maxRecDepth 100000
section
variable {w w' W : World} {f : Fx} {A xs zs' rs res fr : List Int} {H : Int} {z yl b g pc mc gc rn rc q zq fn fc cl cp : Nat} {tp ra ca fa : Option Addr} {av rv v : Value} {x : Int} {S : Nat → Bool} {s : Mst}
theorem Seg.len2 {cs : List Cl} {ob : Int → Ob} {L : List Int} : ∀ {a b : Int}, Seg xs cs ob a L b → 2 * (L.length : Int) ≤ b - a := by
  induction L with
  | nil => intro a b h; have : a = b := h; simp; omega
  | cons y L ih =>
    intro a b h
    have h1 := ih h.2.2
    have h2 : 2 ≤ (ob a).sz := by unfold Ob.sz; omega
    simp only [List.length_cons]
    omega
/-- All ends ahead of the last word. -/
def Yg.lo (y : Yg) : Prop := y.OE ≤ 999 ∧ y.EE ≤ 999 ∧ y.FE ≤ 999 ∧ y.TE ≤ 999
theorem Yg.lo.aft {y : Yg} (h : y.lo) (ot tt : Int) : (y.aft ot tt).lo := ⟨h.1, h.2.1, h.2.2.2, h.2.2.1⟩
theorem Mde.ylo (m : Mde w w' f A xs H z yl b tp g pc mc gc av rv) : f.y.lo := by
  have hy := m.bd.y
  have hh := m.bd.h
  dsimp only at hy
  unfold Yg.lo
  omega
theorem Wf.end_ (h : Wf f xs) (hl : f.y.lo) (hx : x ∈ f.all) : x + (f.ob x).sz ≤ 999 := by
  have o := h.ok.o
  have e := h.ok.e
  have k := h.ok.f
  unfold Yg.lo at hl
  rcases List.mem_append.1 hx with hx | hx
  · have := h.so.bd hx; omega
  · rcases List.mem_append.1 hx with hx | hx
    · have := h.se.bd hx; omega
    · have := h.sf.bd hx; omega
theorem Wf.len3 (h : Wf f xs) (hl : f.y.lo) : f.all.length ≤ 10000 := by
  have o := h.ok.o
  have e := h.ok.e
  have k := h.ok.f
  unfold Yg.lo at hl
  have h1 := h.so.len2
  have h2 := h.se.len2
  have h3 := h.sf.len2
  simp only [Fx.all, Fx.YS, List.length_append]
  omega
theorem Sd.canon (d : Sd W f xs z b tp g pc mc gc S) (hn : f.n = 1000) (hl : f.y.lo) (hra : RAr w q zq xs) (hc : IsCls w ca cl cp f.cs) (hf : L1.Rd w fa fn fr) (hfn : fn < 100000) (hfr : ∀ x ∈ fr, x = 0 ∨ x ∈ f.all) (hres : Rch f.ob fr res) :
    Calls Tryz.prog 10 #[rsV q ca cl cp, .slice fa fn fc] w fun e w' => ∃ v, e = .returned v ∧ OL w' w.heap.size v (canL f.ob fr res) ∧ Grow w w' := by
  have hx : xs.length = 1000 := d.wf.n.trans hn
  have hrs : Rs w q zq ca cl cp xs f.cs := ⟨hra, hc, by omega, d.wf.rt⟩
  refine canon_any (L := f.all) (fun W c x hx' => ?_) hf hfn hfr d.wf.cl (fun x hx' => ?_) (d.wf.len3 hl) hres
  · have ha := d.wf.at_ hx'
    have h1 := ha.a1
    have h2 := d.wf.end_ hl hx'
    exact at_any (hrs.grow c) ha (by omega)
  · have := ((d.wf.at_ hx').ok.bd d.wf.rt).2.1
    unfold Ob.sz at this
    omega
/-- Append behind a guard that is on. -/
theorem wpList_appW {P : Program} {ops : Array Oper} {rest : List Oper} {o : Oper} {a : Act} {Q : Exit → Act → World → Prop} {w w' : World} (hw : Region.wanted o (yielded ops a.tmps) = true) (s x : Operand) (t : TypeId)
    (ho : o.op = .call { callee := .builtin .append, args := #[s, x], argTypes := #[t, t] }) (v1 v2 v' : Value) (hs : a.eval s = v1) (hx : a.eval x = v2)
    (hr : (Builtin.append_ #[t, t] o.type #[v1, v2]).run P w = .ok v' w') (h : wpList P ops Q rest (a.put o.dst v') w') : wpList P ops Q (o :: rest) a w := by
  unfold wpList
  rw [if_pos hw]
  left
  unfold Oper.wp
  simp [execOp, ho, resolve, invoke, builtin, hs, hx, hr, Result.andThen]
  exact h
theorem two_apps {w0 W : World} {v0 : Value} {a1 a2 : Option Addr} {n1 n2 c1 c2 : Nat} {ys1 ys2 : List Int} (g : Grow w0 W) (h0 : OL W w0.heap.size v0 []) (r1 : L1.Rd W a1 n1 ys1) (r2 : L1.Rd W a2 n2 ys2) (hl : ∀ x : Addr, a2 = some x → v0.ownBlock ≠ some x.block) (hn1 : n1 ≤ 100000) (hn2 : n2 ≤ 100000) :
    ∃ x1 y1 W1 x2 y2 W2, (Builtin.append_ #[36, 36] 36 #[v0, .slice a1 n1 c1]).run Tryz.prog W = .ok (.slice x1 n1 y1) W1 ∧ (Builtin.append_ #[36, 36] 36 #[.slice x1 n1 y1, .slice a2 n2 c2]).run Tryz.prog W1 = .ok (.slice x2 (n1 + n2) y2) W2 ∧
      L1.Rd W2 x2 (n1 + n2) (ys1 ++ ys2) ∧ Grow w0 W1 ∧ Grow w0 W2 ∧ Chg (fun i => v0.ownBlock = some i) W W2 := by
  have l1 : ys1.length = n1 := r1.1
  have l2 : ys2.length = n2 := r2.1
  obtain ⟨u1, W1, e1, o1, g1, s1⟩ := app_int (c := c1) h0 g.size r1 (by simp; omega)
  have k1 : Grow w0 W1 := Chg.grownOwn g h0 (Nat.le_refl _) g1
  have d1 : Chg (fun i => v0.ownBlock = some i) W W1 := Chg.grown (S := fun i => v0.ownBlock = some i) (Chg.refl _ _) g1 (fun k _ e => e)
  simp only [List.nil_append] at o1
  obtain ⟨u2, W2, e2, o2, g2, s2⟩ := app_int (c := c2) o1 k1.size (r2.chg d1 hl) (by omega)
  have k2 : Grow w0 W2 := Chg.grownOwn k1 o1 (Nat.le_refl _) g2
  have d2 : Chg (fun i => v0.ownBlock = some i) W W2 := d1.step (Chg.grown (S := fun i => u1.ownBlock = some i) (Chg.refl _ _) g2 (fun k _ e => e)) (fun i hi e => by
    rcases s1 with h | h
    · rw [← h]; exact e
    · rw [h] at e; injection e with e; omega)
  obtain ⟨x1, y1, rfl⟩ := own_len o1
  obtain ⟨x2, y2, rfl⟩ := own_len o2
  have hr := own_rd o2
  rw [List.length_append, l1, l2] at e2 hr
  rw [l1] at e1
  exact ⟨x1, y1, W1, x2, y2, W2, e1, e2, hr, k1, k2, d2⟩
end
theorem flat_len {L : List Int} {g : Int → List Int} {k : Nat} (h : ∀ x ∈ L, (g x).length ≤ k) : (L.flatMap g).length ≤ k * L.length := by
  induction L with
  | nil => simp
  | cons a L ih =>
    have h1 := h a (List.mem_cons_self ..)
    have h2 := ih fun x hx => h x (List.mem_cons_of_mem _ hx)
    rw [List.flatMap_cons, List.length_append, List.length_cons, Nat.mul_succ]
    omega
theorem Sd.can_len {W : World} {f : Fx} {xs fr res : List Int} {z b g pc mc gc : Nat} {tp : Option Addr} {S : Nat → Bool} (d : Sd W f xs z b tp g pc mc gc S) (hl : f.y.lo) (hfn : fr.length < 100000) (hfr : ∀ x ∈ fr, x = 0 ∨ x ∈ f.all) (hres : Rch f.ob fr res) : (canL f.ob fr res).length ≤ 1099511627776 := by
  have hsub : ∀ x ∈ res, x ∈ f.all := reach_D (D := fun x => x ∈ f.all) d.wf.cl hres hfr
  have hrl : res.length ≤ 10000 := Nat.le_trans (nodup_len (hres.nodup (adds_nodup _ List.nodup_nil)) hsub) (d.wf.len3 hl)
  have h1 : (res.flatMap fun a => tell (place res) (f.ob a)).length ≤ 40 * res.length := flat_len fun x hx => by
    have := ((d.wf.at_ (hsub x hx)).ok.bd d.wf.rt).2.1
    unfold Ob.sz at this
    unfold tell
    simp only [List.length_append, List.length_map, List.length_cons, List.length_nil]
    omega
  unfold canL
  rw [List.length_append, List.length_map]
  omega
/-- The roots that are told are 0, or objects. -/
theorem run_memb {w w' : World} {f : Fx} {xs zs' rs : List Int} {z b g pc mc gc fc tc : Nat} {tp : Option Addr} {v : Value} {s : Mst} (wf : Wf f xs) (R : Ran w w' { f with zs := zs' } z b tp g pc mc gc fc tc v rs s) (hz : ∀ r ∈ zs', r = 0 ∨ r ∈ f.all) : ∀ x ∈ rs, x = 0 ∨ x ∈ (f.aft s rs).all := by
  have wf' := wf.zs zs'
  have hzD := zs_D wf' R.i (rs := rs) hz R.rs
  have e1 : rs = zs'.map (ph f.y s.mv) := rs_map R.n fun j hj => R.rs j hj
  intro x hx
  rw [e1] at hx
  obtain ⟨y, hy, rfl⟩ := List.mem_map.1 hx
  rcases hzD y hy with rfl | h
  · exact .inl (ph_0 wf)
  · have := (ph_src wf' R.i h).1
    exact .inr (by simpa [Fx.all, Fx.YS] using this)
theorem recS_no {y : Yg} {ob : Int → Ob} {f t : Nat} {L : List Int} (h : ∀ o, y.ld o = false) : recS y ob f t L = L3.no := by
  unfold recS
  have : ∀ (L : List Int) (S : Nat → Bool), L.foldl (fun S x => if y.ld (ob x) then L7.tset S f t x else S) S = S := by
    intro L
    induction L with
    | nil => intro S; rfl
    | cons a L ih =>
      intro S
      rw [List.foldl_cons, h, if_neg (by decide)]
      exact ih S
  exact this L _
/-- Without young ones nothing leads to one. -/
theorem ld_none {y : Yg} (h1 : y.ET = y.EF) (h2 : y.FT = y.FF) (o : Ob) : y.ld o = false := by
  unfold Yg.ld
  refine List.any_eq_false.2 fun r _ => ?_
  unfold Yg.isY
  rw [has_not (by omega), has_not (by omega)]
  decide
theorem cds_no (f k : Nat) : L7.cds L3.no f k = [] := by
  induction k with
  | zero => rfl
  | succ k ih => rw [L7.cds, ih]; rfl
/-- What is told of a world before and behind a run, from the roots and some that stay. -/
theorem run_can {w w' : World} {f : Fx} {xs L zs' rs res : List Int} {z b g pc mc gc fc tc : Nat} {tp : Option Addr} {v : Value} {s : Mst} (wf : Wf f xs) (R : Ran w w' { f with zs := zs' } z b tp g pc mc gc fc tc v rs s) (hz : ∀ r ∈ zs', r = 0 ∨ r ∈ f.all) (hL : ∀ x ∈ L, x ∈ f.OS) (hres : Rch f.ob (zs' ++ L) res) :
    Rch s.ob (rs ++ L) (res.map (ph f.y s.mv)) ∧ canL s.ob (rs ++ L) (res.map (ph f.y s.mv)) = canL f.ob (zs' ++ L) res ∧ ∀ x ∈ rs ++ L, x = 0 ∨ x ∈ (f.aft s rs).all := by
  have wf' := wf.zs zs'
  have hi := fin_iso wf' R.i R.d
  have hzD := zs_D wf' R.i (rs := rs) hz R.rs
  have e1 : rs = zs'.map (ph f.y s.mv) := rs_map R.n fun j hj => R.rs j hj
  have e2 : L.map (ph f.y s.mv) = L := by
    have h : L.map (ph f.y s.mv) = L.map id := List.map_congr_left fun x hx => (ph_os wf (hL x hx) : ph f.y s.mv x = x)
    rw [h, List.map_id]
  have hD : ∀ x ∈ zs' ++ L, x = 0 ∨ Dm { f with zs := zs' } s x := fun x hx => by
    rcases List.mem_append.1 hx with h | h
    · exact hzD x h
    · exact .inr (.inl (hL x h))
  have e3 : (zs' ++ L).map (ph f.y s.mv) = rs ++ L := by rw [List.map_append, e2, ← e1]
  refine ⟨?_, ?_, fun x hx => ?_⟩
  · rw [← e3]; exact hi.reach hres hD
  · rw [← e3]; exact hi.can hres hD
  · rw [← e3] at hx
    obtain ⟨y, hy, rfl⟩ := List.mem_map.1 hx
    rcases hD y hy with rfl | h
    · exact .inl (ph_0 wf)
    · have := (ph_src wf' R.i h).1
      exact .inr (by simpa [Fx.all, Fx.YS] using this)
end Go.Proofs.YtogfjclmohpjkaaGreat.L15
