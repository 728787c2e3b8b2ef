/- Reference processing: a world as it came in; the graphs that the laws make of it. Conditions: none. -/
import Derived.Test.YtjfpjnhlnoiekaaGreatL10D
namespace Go.Proofs.YtjfpjnhlnoiekaaGreat.L13
open Go.ChangeShapes Go.WideShapes Go.ChangeAt Go.RowKit Go.Deep
open Go.Proofs.YtjfpjnhlnoiekaaGreat.L10
open Go.Proofs.YtjfpjnhlnoiekaaGreat.L9 (Nd nd GS RG Rf Lok In64 Srt nd_some nd_none nd_mem nd_at own_rd ptr Bo Tz new_tz new_gr add_gs add_r setref_gs setref_r adX adL srX srL newNd ins newX_rt)
open Go.Proofs.YtjfpjnhlnoiekaaGreat.L5 (Cl clAt isRf IsCls newX shX shR shD)
set_option linter.unusedVariables false
section
variable {H : Type} {enc : TypeId × Value → H} {P : Program} {w : World} {base : Nat} {held : Bool}
set_option maxRecDepth 100000 in
theorem open_world {r : Reach} {b0 : Nat} {v : Value} {d : DataW H} {p : List MemPlace} (hv : Value.okWide Tryz.prog w r b0 26 v) (h : DataW.Trod enc Tryz.prog w base (fun _ => true) held 26 v d p) :
    ∃ u cs ns ts, v = Wo.v u ∧ IsWo w u cs ns ts := by
  obtain ⟨cs, rfl, hsz⟩ := okWide_struct Tryz.underlying26 hv
  obtain ⟨fuel, hf⟩ := h
  obtain ⟨hl, hg⟩ := struct_cells Tryz.underlying26 (by kernel_rfl) (by kernel_rfl) hf
  replace hl : cs.toList.length = 3 := by simpa [Value.cells] using hl
  obtain ⟨c0, n0, y0, e0, t0⟩ := hg 0 _ rfl
  obtain ⟨c1, n1, y1, e1, t1⟩ := hg 1 _ rfl
  obtain ⟨c2, n2, y2, e2, t2⟩ := hg 2 _ rfl
  obtain ⟨ca, cl, cc, rfl⟩ := sl_form Tryz.underlying22 t0
  obtain ⟨na, nl, nc, rfl⟩ := sl_form Tryz.underlying23 t1
  obtain ⟨ra, rl, rc, rfl⟩ := sl_form Tryz.underlying24 t2
  obtain ⟨L, hL⟩ := open_clF (a := ca) (len := cl) (cap := cc) ⟨n0, t0⟩
  obtain ⟨ns, hn⟩ := open_row (a := na) (len := nl) (cap := nc) Tryz.underlying23 Tryz.underlying5 (by kernel_rfl) ⟨n1, t1⟩
  obtain ⟨ts, ht⟩ := open_tri (a := ra) (len := rl) (cap := rc) ⟨n2, t2⟩
  refine ⟨⟨ca, cl, cc, na, nl, nc, ra, rl, rc⟩, L, ns, ts, ?_, hL, hn, ht⟩
  have e : cs = cs.toList.toArray := by simp
  rw [e]
  simp only [Value.cells] at e0 e1 e2
  match cs.toList, hl, e0, e1, e2 with
  | [a, b, c], _, e0, e1, e2 =>
    simp at e0 e1 e2
    subst e0 e1 e2
    rfl
end
/-- Whether a node is final its class tells. -/
def fof (o : Option Cl) : Bool := match o with
  | some k => k.f
  | none => false
def Fv (cs : List Cl) (L : List Nd) : Prop := ∀ x ∈ L, x.fin = fof (clAt cs x.c)
theorem fv_add {cs : List Cl} {L : List Nd} (h : Fv cs L) (i c l : Int) : Fv cs (adL cs L i c l) := by
  unfold adL
  split
  · intro x hx
    rcases L9.mem_ins.1 hx with rfl | hx
    · rfl
    · exact h x hx
  · exact h
theorem fv_set {cs : List Cl} {L : List Nd} (h : Fv cs L) (i k t : Int) : Fv cs (srL L i k t) := by
  unfold srL
  split
  · intro x hx
    obtain ⟨y, hy, rfl⟩ := List.mem_map.1 hx
    split
    · exact h y hy
    · exact h y hy
  · exact h
/-- What stands between two calls. -/
structure Mk (w0 w : World) (z p q : Nat) (cv : Value) (cs : List Cl) (k : Nat) (L : List Nd) : Prop where
  bo : Bo w z p q cv cs L
  ids : L.map Nd.id = nms k
  cz : Chg (fun j => z ≤ j) w0 w
  rv : Rv L
  fv : Fv cs L
theorem Mk.grow {w0 w w' : World} {z p q k : Nat} {cv : Value} {cs : List Cl} {L : List Nd} (h : Mk w0 w z p q cv cs k L) (g : Grow w w') : Mk w0 w' z p q cv cs k L := ⟨h.bo.grow g, h.ids, h.cz.step g fun _ _ h => h.elim, h.rv, h.fv⟩
section
variable {w : World} {u : Wo} {cs : List Cl} {ns : List Int} {ts : List Tr}
set_option maxRecDepth 100000 in
set_option maxHeartbeats 2000000 in
theorem made_no (h : IsWo w u cs ns ts) (hg : ¬ good u cs) :
    Calls Tryz.prog 4 #[Wo.v u] w fun e w' => e = .returned (.tuple #[.pointer none, .pointer none, .bool false]) ∧ Grow w w' := by
  by_cases h1 : 40 < u.nl
  · skip
    have hbx := Blk.new w 26 [.slice u.ca u.cl u.cc, .slice u.na u.nl u.nc, .slice u.ra u.rl u.rc]
    have gB := Grow.box w (.cells [.slice u.ca u.cl u.cc, .slice u.na u.nl u.nc, .slice u.ra u.rl u.rc].toArray 26)
    have HW := hide (h.chg gB fun _ _ => id)
    have k0 := hbx.cell 0
    have k1 := hbx.cell 1
    have k2 := hbx.cell 2
    have HBX := hide hbx
    obtain ⟨ca, cl, cc, na, nl, nc, ra, rl, rc⟩ := u
    dsimp only at *
    clear h hbx
    clear hg
    have q1 : decide ((nl : Int) > 40) = true := by simp; omega
    go_enter Tryz.func4, Tryz.ntmps4
    go_wp2
    go_returns
    exact ⟨rfl, gB⟩
  by_cases h2 : 200 < u.rl
  · skip
    have hbx := Blk.new w 26 [.slice u.ca u.cl u.cc, .slice u.na u.nl u.nc, .slice u.ra u.rl u.rc]
    have gB := Grow.box w (.cells [.slice u.ca u.cl u.cc, .slice u.na u.nl u.nc, .slice u.ra u.rl u.rc].toArray 26)
    have HW := hide (h.chg gB fun _ _ => id)
    have k0 := hbx.cell 0
    have k1 := hbx.cell 1
    have k2 := hbx.cell 2
    have HBX := hide hbx
    obtain ⟨ca, cl, cc, na, nl, nc, ra, rl, rc⟩ := u
    dsimp only at *
    clear h hbx
    clear hg
    have q1 : decide ((nl : Int) > 40) = false := by simp; omega
    have q2 : decide ((rl : Int) > 200) = true := by simp; omega
    go_enter Tryz.func4, Tryz.ntmps4
    go_wp2
    go_returns
    exact ⟨rfl, gB⟩
  by_cases h3 : u.cl = 0
  · skip
    have hbx := Blk.new w 26 [.slice u.ca u.cl u.cc, .slice u.na u.nl u.nc, .slice u.ra u.rl u.rc]
    have gB := Grow.box w (.cells [.slice u.ca u.cl u.cc, .slice u.na u.nl u.nc, .slice u.ra u.rl u.rc].toArray 26)
    have HW := hide (h.chg gB fun _ _ => id)
    have k0 := hbx.cell 0
    have k1 := hbx.cell 1
    have k2 := hbx.cell 2
    have HBX := hide hbx
    obtain ⟨ca, cl, cc, na, nl, nc, ra, rl, rc⟩ := u
    dsimp only at *
    clear h hbx
    clear hg
    have q1 : decide ((nl : Int) > 40) = false := by simp; omega
    have q2 : decide ((rl : Int) > 200) = false := by simp; omega
    subst h3
    go_enter Tryz.func4, Tryz.ntmps4
    go_wp2
    go_returns
    exact ⟨rfl, gB⟩
  by_cases h4 : 63 < u.cl
  · skip
    have hbx := Blk.new w 26 [.slice u.ca u.cl u.cc, .slice u.na u.nl u.nc, .slice u.ra u.rl u.rc]
    have gB := Grow.box w (.cells [.slice u.ca u.cl u.cc, .slice u.na u.nl u.nc, .slice u.ra u.rl u.rc].toArray 26)
    have HW := hide (h.chg gB fun _ _ => id)
    have k0 := hbx.cell 0
    have k1 := hbx.cell 1
    have k2 := hbx.cell 2
    have HBX := hide hbx
    obtain ⟨ca, cl, cc, na, nl, nc, ra, rl, rc⟩ := u
    dsimp only at *
    clear h hbx
    clear hg
    have q1 : decide ((nl : Int) > 40) = false := by simp; omega
    have q2 : decide ((rl : Int) > 200) = false := by simp; omega
    have q3 : ((cl : Int) == 0) = false := by simp; omega
    have q4 : decide ((cl : Int) > 63) = true := by simp; omega
    clear h3
    go_enter Tryz.func4, Tryz.ntmps4
    go_wp2
    go_returns
    exact ⟨rfl, gB⟩
  · obtain ⟨X, hX⟩ : ∃ X, newX cs = X := ⟨_, rfl⟩
    have hX0 : X ≠ 0 := fun e => hg ⟨by omega, by omega, by rw [hX, e]⟩
    have q5 : (X != 0) = true := by simpa using hX0
    have HX := hide hX
    have hbx := Blk.new w 26 [.slice u.ca u.cl u.cc, .slice u.na u.nl u.nc, .slice u.ra u.rl u.rc]
    have gB := Grow.box w (.cells [.slice u.ca u.cl u.cc, .slice u.na u.nl u.nc, .slice u.ra u.rl u.rc].toArray 26)
    have HW := hide (h.chg gB fun _ _ => id)
    have k0 := hbx.cell 0
    have k1 := hbx.cell 1
    have k2 := hbx.cell 2
    have HBX := hide hbx
    obtain ⟨ca, cl, cc, na, nl, nc, ra, rl, rc⟩ := u
    dsimp only at *
    clear h hbx
    clear hg hX hX0
    have q1 : decide ((nl : Int) > 40) = false := by simp; omega
    have q2 : decide ((rl : Int) > 200) = false := by simp; omega
    have q3 : ((cl : Int) == 0) = false := by simp; omega
    have q4 : decide ((cl : Int) > 63) = false := by simp; omega
    have HL := hide h4
    clear h3 h1 h2 h4
    go_enter Tryz.func4, Tryz.ntmps4
    go_wp2_with fail
    refine (L5.rnew_any _ _ _ _ _ HW.out.c (by have := HL.out; dsimp only; omega)).mono ?_
    rintro e w2 ⟨rfl, c2⟩
    rw [HX.out]
    replace gB := gB.trans c2
    go_wp2
    go_returns
    exact ⟨rfl, gB⟩
set_option maxRecDepth 100000 in
set_option maxHeartbeats 4000000 in
theorem made_yes (h : IsWo w u cs ns ts) (hg : good u cs) :
    Calls Tryz.prog 4 #[Wo.v u] w fun e w' => ∃ z p q L, e = .returned (.tuple #[ptr p, ptr q, .bool true]) ∧ Bo w' z p q (.slice u.ca u.cl u.cc) cs L ∧ L.map Nd.id = nms u.nl ∧ Rv L ∧ Fv cs L ∧ w.heap.size ≤ z ∧ Grow w w' := by
  obtain ⟨⟨h1, h2⟩, ⟨h3, h4⟩, hX⟩ := hg
  have HRT := hide (newX_rt hX)
  have HX := hide hX
  clear hX
  have hbx := Blk.new w 26 [.slice u.ca u.cl u.cc, .slice u.na u.nl u.nc, .slice u.ra u.rl u.rc]
  have gB := Grow.box w (.cells [.slice u.ca u.cl u.cc, .slice u.na u.nl u.nc, .slice u.ra u.rl u.rc].toArray 26)
  have HW := hide (h.chg gB fun _ _ => id)
  have k0 := hbx.cell 0
  have k1 := hbx.cell 1
  have k2 := hbx.cell 2
  have HBX := hide hbx
  obtain ⟨ca, cl, cc, na, nl, nc, ra, rl, rc⟩ := u
  dsimp only at *
  clear h hbx
  have q1 : decide ((nl : Int) > 40) = false := by simp; omega
  have q2 : decide ((rl : Int) > 200) = false := by simp; omega
  have q3 : ((cl : Int) == 0) = false := by simp; omega
  have q4 : decide ((cl : Int) > 63) = false := by simp; omega
  have HL := hide (⟨h1, h2, Nat.pos_of_ne_zero h3, h4⟩ : nl ≤ 40 ∧ rl ≤ 200 ∧ 0 < cl ∧ cl ≤ 63)
  clear h1 h2 h3 h4
  go_enter Tryz.func4, Tryz.ntmps4
  go_wp2_with fail
  refine (L5.rnew_any _ _ _ _ _ HW.out.c (by have := HL.out; dsimp only; omega)).mono ?_
  rintro e w2 ⟨rfl, c2⟩
  rw [HX.out]
  replace k0 := Grow.cell c2 k0
  have HW2 := hide (HW.out.chg c2 fun _ _ => id)
  have HB2 := hide (HBX.out.chg c2 id)
  have HG2 := hide (gB.trans c2)
  clear gB c2 k1 k2 q1 q2 q3 q4 HBX HW
  go_wp2_with fail
  refine (new_tz HW2.out.c (by have := HL.out; dsimp only; omega) HX.out).mono ?_
  rintro e w4 ⟨tb, rfl, ht, c4⟩
  replace k0 := Grow.cell c4 k0
  obtain ⟨z, hz⟩ : ∃ z, w4.heap.size = z := ⟨_, rfl⟩
  rw [hz] at ht
  obtain ⟨b, hb⟩ : ∃ b, w.heap.size = b := ⟨_, rfl⟩
  have hbz : b < z := by rw [← hz, ← hb]; exact (HB2.out.chg c4 id).lt
  have HG4 := hide (HG2.out.trans c4)
  have HW4 := hide (HW2.out.chg c4 fun _ _ => id)
  have HB4 := hide (HB2.out.chg c4 id)
  rw [hb] at HB4 k0 ⊢
  have HBZ := hide (And.intro hbz (And.intro hb hz))
  have HCELL := hide (show ∀ W, Chg (fun j => z ≤ j) w4 W → W.cell? ⟨b, 0, none⟩ = some (.slice ca cl cc) ∧ W.cell? ⟨b, 1, none⟩ = some (.slice na nl nc) ∧ W.cell? ⟨b, 2, none⟩ = some (.slice ra rl rc) from fun W c => ⟨c.cell (HB4.out.cell 0) (by show ¬ z ≤ b; omega), c.cell (HB4.out.cell 1) (by show ¬ z ≤ b; omega), c.cell (HB4.out.cell 2) (by show ¬ z ≤ b; omega)⟩)
  have HWW := hide (show ∀ W, Chg (fun j => z ≤ j) w4 W → IsWo W ⟨ca, cl, cc, na, nl, nc, ra, rl, rc⟩ cs ns ts from fun W c => HW4.out.chg c fun i hi h => by rw [← hz] at h; omega)
  have HNG := hide (fun (W : World) (g : Grow w4 W) => new_gr (ht.grow g) (by rw [← hz]; exact g.size))
  have HK := hide (fun (W : World) (g : Grow w4 W) => g.cell k0)
  clear c4 ht hbz hb hz HG2 HB2 HW2
  go_wp2_with fail
  go_region_held3 (fun w' => w'.cell? ⟨b, 0, none⟩ = some (.slice ca cl cc)) (first | assumption | exact HK.out _ ((Chg.refl _ _).drew.trans c5) | exact HK.out _ (Chg.trans (Chg.alloc (Chg.refl _ _).drew _) c5) | (refine HK.out _ ?_ <;> (repeat (first | exact Chg.refl _ _ | exact c5 | exact Chg.trans (Chg.drew (Chg.refl _ _)) c5 | refine Chg.drew ?_ | refine Chg.alloc ?_ _)))) (first | (go_at_call 19; refine Calls.mono (HNG.out _ (by (repeat (first | exact Chg.refl _ _ | refine Chg.drew ?_ | refine Chg.alloc ?_ _)))) ?_; rintro e w5 ⟨p, S, rfl, c5, hg, hs⟩))
  · have hbl := Blk.new w5 43 [.slice ca cl cc, .slice none 0 0]
    have gb5 := Grow.box w5 (.cells [.slice ca cl cc, .slice none 0 0].toArray 43)
    have hz5 : z ≤ w5.heap.size := by have := HBZ.out.2.2; have := c5.size; simp at this; omega
    have HM := hide (⟨⟨S, (· = w5.heap.size), hg.grow gb5, rg_new hbl hz5, fun k hk e => by have := (hg.s hk).2; omega⟩, rfl, ((Chg.refl _ w4).drew.trans (c5.trans gb5)).mono fun _ _ h => h.elim, (fun x hx => by cases hx), fun x hx => by cases hx⟩ : Mk w4 (w5.alloc (.cells [.slice ca cl cc, .slice none 0 0].toArray 43)) z p w5.heap.size (.slice ca cl cc) cs 0 [])
    clear hbl gb5 hz5 hg hs c5 HNG HK k0 HW4 HB4
    generalize w5.alloc (.cells #[.slice ca cl cc, .slice none 0 0] 43) = wm at *
    generalize w5.heap.size = q at *
    obtain ⟨k0, k1, k2⟩ := HCELL.out _ HM.out.cz
    go_wp2_with fail
    clear k0 k1 k2
    go_loopw [61] (fun v wr => ∃ (k : Nat) (L : List Nd), k ≤ nl ∧ v = .int .i64 k ∧ Mk w4 wr z p q (.slice ca cl cc) cs k L) (fun v _ => nl - (Go.RowKit.intOf v).toNat)
    case atStart => exact ⟨0, [], Nat.zero_le _, rfl, HM.out⟩
    case round =>
      clear HM
      obtain ⟨k, L, hk, rfl, hmk⟩ := hrel
      rcases Nat.eq_or_lt_of_le hk with hke | hlt
      · have hke2 := hke.symm
        subst hke2
        clear hke hk
        have q1 : decide ((nl : Int) < nl) = false := by simp
        have HM := hide hmk
        clear hmk
        obtain ⟨-, -, k2⟩ := HCELL.out _ HM.out.cz
        go_wp2_with fail
        clear k2 q1
        go_loopw [99] (fun v wr => ∃ (k : Nat) (L : List Nd), k ≤ rl ∧ v = .int .i64 k ∧ Mk w4 wr z p q (.slice ca cl cc) cs nl L) (fun v _ => rl - (Go.RowKit.intOf v).toNat)
        case atStart => exact ⟨0, L, Nat.zero_le _, rfl, HM.out⟩
        case round =>
          clear HM L
          obtain ⟨k, L, hk, rfl, hmk⟩ := hrel
          have HFIN := hide (show ∀ wx, Mk w4 wx z p q (.slice ca cl cc) cs nl L → w.heap.size ≤ z ∧ Grow w wx from fun wx hm => ⟨by have := HBZ.out; omega, HG4.out.step hm.cz fun i hi h => by have := HBZ.out; have := h; omega⟩)
          rcases Nat.eq_or_lt_of_le hk with hke | hlt
          · have hke2 := hke.symm
            subst hke2
            clear hke hk
            have q1 : decide ((rl : Int) < rl) = false := by simp
            have HM := hide hmk
            clear hmk
            go_wp2
            go_returns
            exact ⟨z, p, q, L, rfl, HM.out.bo, HM.out.ids, HM.out.rv, HM.out.fv, (HFIN.out _ HM.out).1, (HFIN.out _ HM.out).2⟩
          · have q1 : decide ((k : Int) < rl) = true := decide_eq_true (by omega)
            obtain ⟨-, k1, k2⟩ := HCELL.out _ hmk.cz
            have HK := hide hlt
            have hw : IntKind.i64.wrap ((k : Int) + 1) = ((k + 1 : Nat) : Int) := (IntWalk.i64_in _ (by have := HL.out; omega)).trans (by omega)
            by_cases hn0 : nl = 0
            · as_aux_lemma =>
              have q2 : ((nl : Int) == 0) = true := by simp; omega
              have HM := hide hmk
              clear hmk hn0 hlt hk hw
              go_wp2
              go_returns
              exact ⟨z, p, q, L, rfl, HM.out.bo, HM.out.ids, HM.out.rv, HM.out.fv, (HFIN.out _ HM.out).1, (HFIN.out _ HM.out).2⟩
            · as_aux_lemma =>
              have q2 : ((nl : Int) == 0) = false := by simp; omega
              have hwo := HWW.out _ hmk.cz
              obtain ⟨tb', to', t, hra, -, ⟨ha, hb, hc⟩, x0, x1, x2⟩ := hwo.r.at_ hlt
              dsimp only at hra
              obtain ⟨ta, tbb, tc⟩ := t
              dsimp only at ha hb hc x0 x1 x2
              obtain ⟨aa, haa, hal⟩ := rem_is ta nl (by omega)
              obtain ⟨tt, htt, htl⟩ := rem_is tc (nl + 1) (by omega)
              obtain ⟨N1, hN1⟩ : ∃ N1 : Int, ((nl + 1 : Nat) : Int) = N1 := ⟨_, rfl⟩
              rw [hN1] at htt
              have p0 : N1 ≠ 0 := by omega
              have hlen : L.length = nl := by have := congrArg List.length hmk.ids; rwa [List.length_map, nms_len] at this
              obtain ⟨x, hx, hxi⟩ := nms_at hmk.ids hal
              obtain ⟨S, T, hg, hr, hd⟩ := hmk.bo
              have HLOK := hide hg.lok
              obtain ⟨v, r, d, ow, hrf⟩ := hr
              obtain ⟨gn, vc, rfl, -, -, -, -, -, y2, -⟩ := hrf.at_ hx
              have y1 := hrf.cell1
              rw [hlen] at y1
              have hr : RG wr z T q (.slice ca cl cc) L := ⟨_, _, _, _, hrf⟩
              obtain ⟨M, hM⟩ : ∃ M, x.refs.length = M := ⟨_, rfl⟩
              rw [hM] at y2
              have hM30 : M ≤ 30 := by rw [← hM]; exact (hg.ok (List.mem_of_getElem? hx)).rl
              generalize r x.id = rb at *
              have HAT := hide (⟨hal, htl, ha, hb, hc, hM30, hlen, hN1⟩ : aa < nl ∧ tt < nl + 1 ∧ (0 ≤ ta ∧ ta ≤ 255) ∧ (0 ≤ tbb ∧ tbb ≤ 255) ∧ (0 ≤ tc ∧ tc ≤ 255) ∧ M ≤ 30 ∧ L.length = nl ∧ ((nl + 1 : Nat) : Int) = N1)
              have hll : L.length < 1000000 := by rw [hlen]; have := HL.out; omega
              have HM := hide hmk
              have HD := hide hd
              have HG := hide hg
              have HR := hide hr
              have HY := hide (And.intro y1 y2)
              have HWA := hide (wr_small aa (by have := HL.out; omega))
              have HP8 := hide (show aa < nl from hal)
              have p3 : (0 : Int) ≤ ta := ha.1
              have p4 : (0 : Int) ≤ tc := hc.1
              have p5 : (nl : Int) ≠ 0 := by omega
              have p7 : k < rl := hlt
              obtain ⟨A, hA⟩ : ∃ A : Int, (aa : Int) + 1 = A := ⟨_, rfl⟩
              have HAI := hide (show In64 A from (show (Lit.int .i64 _).wf = true by simp [Lit.wf, IntKind.min, IntKind.max, IntKind.signed, IntKind.bits]; have := HL.out; omega))
              have HTI := hide (show In64 (tt : Int) from (show (Lit.int .i64 _).wf = true by simp [Lit.wf, IntKind.min, IntKind.max, IntKind.signed, IntKind.bits]; have := HL.out; omega))
              have HTB := hide (tri_b tbb M hb)
              obtain ⟨p1, p1', p2, p2', p6, p6'⟩ := tri_facts ta tc nl ha hc (by have := HL.out; omega)
              rw [hN1] at p6 p6'
              have HX1 := hide x1
              have HPA := hide (show wrap64 (1 + (aa : Int)) = A ∧ IntKind.i64.wrap (A - 1) = aa ∧ aa < nl from by
                obtain ⟨-, -, e1, e2, -⟩ := HWA.out
                rw [hA] at e1 e2
                exact ⟨e1, e2, HP8.out⟩)
              subst hra
              clear hmk hwo hlt hk hd hg hr hrf hlen hN1 hM30 hx hxi hM hal htl ha hb hc y1 y2 hn0 HP8 HWA hA x1
              go_wp2_with fail
              go_quiet (fail)
              rw [HPA.out.1, htt]
              have gq : Grow wr (wr.drewN nq) := (Chg.refl (fun _ => False) wr).drewN nq
              have y1 := gq.cell HY.out.1
              have y2 := gq.cell HY.out.2
              have x1 := gq.cell HX1.out
              have k2 := gq.cell k2
              have HGQ := hide gq
              generalize wr.drewN nq = wq at *
              obtain ⟨-, p8, p9⟩ := HPA.out
              clear p1 p1' p2 p2' p3 p4 p5 p6 p6' p0 haa htt x0 x2 k1 HPA q1 q2 HX1 HY gq
              by_cases hM0 : M = 0
              · have q3 : decide ((M : Int) > 0) = false := by simp; omega
                have q4 : ¬ 0 < M := by omega
                have q5 : decide (0 < M) = false := decide_eq_false q4
                have HM2 := hide (HM.out.grow HGQ.out)
                clear hM0 k2 x1
                go_wp2
                go_roundw
                case rel => exact ⟨k + 1, L, HK.out, rfl, HM2.out⟩
                case measure => have := HK.out; simp [Go.RowKit.intOf]; omega
              · have q3 : decide ((M : Int) > 0) = true := by simp; omega
                obtain ⟨bb, hbb, hbl⟩ := rem_is tbb M (by omega)
                have HBI := hide (show In64 (bb : Int) from (show (Lit.int .i64 _).wf = true by simp [Lit.wf, IntKind.min, IntKind.max, IntKind.signed, IntKind.bits]; have := HAT.out.2.2.2.2.2.1; omega))
                obtain ⟨r1, r2, r3⟩ := HTB.out
                have r4 : (M : Int) ≠ 0 := by omega
                have r5 : 0 < M := by omega
                have HS1 := hide (setref_gs (HG.out.grow HGQ.out) HAI.out HBI.out HTI.out)
                have HS2 := hide (fun (W' : World) (c' : Chg S wq W') => setref_r (i := A) (t0 := (bb : Int)) (t := (tt : Int)) ((HR.out.grow HGQ.out).chg c' fun j hj hs => HD.out j hs hj) HLOK.out hll)
                have HIDS := hide (srL_ids L A bb tt)
                have HFV := hide (fv_set HM.out.fv A bb tt)
                have HRV := hide (rv_set HM.out.rv A bb tt (by omega) (by have := HAT.out.2.1; have := HAT.out.2.2.2.2.2.2.1; omega))
                generalize srX L A bb tt = X at *
                generalize srL L A bb tt = L2 at *
                clear hM0 hbl
                go_wp2_with fail
                refine HS1.out.mono ?_
                rintro e w3 ⟨rfl, c3, h3⟩
                have HA2 := hide (HS2.out w3 c3)
                have H3 := hide (And.intro c3 h3)
                clear c3 h3 HS1 HS2 y1 y2 x1 k2 p8 p9 r1 r2 r3 r4 r5 q3
                go_wp2_with fail
                refine HA2.out.mono ?_
                rintro e w5 ⟨rfl, c5, h5⟩
                obtain ⟨c3, h3⟩ := H3.out
                obtain ⟨hb2, hc2⟩ := Bo.two (HG.out.grow HGQ.out) (HR.out.grow HGQ.out) HD.out c3 h3 (fun j hj => .inl hj) c5 h5 (fun j hj => .inl hj)
                have HM2 := hide (⟨hb2, HIDS.out.trans HM.out.ids, (HM.out.cz.step HGQ.out fun _ _ h => h.elim).trans hc2, HRV.out, HFV.out⟩ : Mk w4 w5 z p q (.slice ca cl cc) cs nl L2)
                clear hb2 hc2 h5 h3 c3 c5 HA2 H3 hbb
                go_wp2
                go_roundw
                case rel => exact ⟨k + 1, L2, HK.out, rfl, HM2.out⟩
                case measure => have := HK.out; simp [Go.RowKit.intOf]; omega
      · have q1 : decide ((k : Int) < nl) = true := decide_eq_true (by omega)
        obtain ⟨k0, k1, -⟩ := HCELL.out _ hmk.cz
        have hwo := HWW.out _ hmk.cz
        obtain ⟨xa, hxa, hcx, hwf⟩ := hwo.n.at_ hlt
        dsimp only at hxa
        have hbd := bounds_u8 hwf
        generalize ns.getD k 0 = t at *
        obtain ⟨kk, hkk, hkl⟩ : ∃ kk : Nat, t % (cl : Int) = kk ∧ kk < cl := ⟨(t % (cl : Int)).toNat, by have := Int.emod_nonneg t (show (cl : Int) ≠ 0 by have := HL.out; omega); omega, by have := Int.emod_lt_of_pos t (show (0 : Int) < cl by have := HL.out; omega); have := Int.emod_nonneg t (show (cl : Int) ≠ 0 by have := HL.out; omega); omega⟩
        obtain ⟨cb, co, c, hca, hcc, hat, -⟩ := hwo.c.at_ hkl
        dsimp only at hca
        have hc0 := hat.1
        have hcl : clAt cs ((kk : Int) + 1) = some c := L5.clAt_at hcc
        obtain ⟨S, T, hg, hr, hd⟩ := hmk.bo
        have hll : L.length < 1000000 := by have := congrArg List.length hmk.ids; rw [List.length_map, nms_len] at this; have := HL.out; omega
        have hki : In64 ((k : Int) + 1) := (show (Lit.int .i64 _).wf = true by simp [Lit.wf, IntKind.min, IntKind.max, IntKind.signed, IntKind.bits]; have := HL.out; omega)
        have HS1 := hide (fun (W : World) (g : Grow wr W) (l : Int) => add_gs (hg.grow g) hll hki ((kk : Int) + 1) l)
        have HS2 := hide (fun (W W' : World) (g : Grow wr W) (c' : Chg S W W') (l : Int) => add_r ((hr.grow g).chg c' fun j hj hs => hd j hs hj) (HWW.out W' ((hmk.cz.step g fun _ _ h => h.elim).step c' fun j _ hs => (hg.s hs).1)).c hg.lok HRT.out.1 hll (by have := HL.out; omega) ((k : Int) + 1) ((kk : Int) + 1) l)
        have HMK := hide hmk
        have HK := hide hlt
        have hw0 : IntKind.i64.wrap ((k : Int) + 1) = ((k : Int) + 1) := IntWalk.i64_in _ (by have := HL.out; omega)
        have hw : IntKind.i64.wrap ((k : Int) + 1) = ((k + 1 : Nat) : Int) := (IntWalk.i64_in _ (by have := HL.out; omega)).trans (by omega)
        have hk64 : kk < 64 := by have := HL.out; omega
        have HP8 := hide (show decide ((kk : Int) < (cl : Int)) = true from decide_eq_true (by omega))
        have p1 : IntKind.i64.wrap t = t := IntWalk.i64_in _ (by omega)
        have p2 : ((cl : Int)) ≠ 0 := by have := HL.out; omega
        have p3 : (0 : Int) ≤ t := hbd.1
        have p4 : k < nl := hlt
        have p5 : wrap64 t = t := wrap64_id _ (by omega)
        subst hxa hca
        clear hmk hwo hat hcc hlt hk hwf hbd hki hll
        obtain ⟨K, hK⟩ : ∃ K : Int, (kk : Int) + 1 = K := ⟨_, rfl⟩
        obtain ⟨-, -, p6, p7, -⟩ := wr_small kk hk64
        rw [hK] at p6 p7 hcl HS1 HS2
        have HPP := hide (And.intro p6 (And.intro p7 HP8.out))
        clear hk64 hK p6 p7 HP8
        have HCL := hide hcl
        have HD := hide hd
        clear hcl hd
        by_cases h2 : c.k = 2
        · as_aux_lemma =>
          have HP9 := hide (show (c.k == 2) = true by simpa using h2)
          have HNX := hide (add_next (k := k) (l := 2) HMK.out.ids HCL.out (.inr ⟨rfl, h2⟩))
          clear h2
          generalize c.k = ck at *
          go_wp2_with fail
          go_quiet (fail)
          rw [HPP.out.1]
          clear hcx p1 p2 p3 p4 p5 q1
          obtain ⟨-, p7, p8⟩ := HPP.out
          have gq : Grow wr (wr.drewN nq) := (Chg.refl (fun _ => False) wr).drewN nq
          replace k0 := gq.cell k0
          replace hc0 := gq.cell hc0
          generalize wr.drewN nq = wq at *
          have p9 := HP9.out
          go_wp2_with fail
          refine (HS1.out _ gq 2).mono ?_
          rintro e w3 ⟨rfl, c3, S3, h3, s3⟩
          rw [HNX.out.1]
          have HA2 := hide (HS2.out _ w3 gq c3 2)
          have H3 := hide (And.intro c3 (And.intro h3 s3))
          clear c3 h3 s3 HS1 HS2 hc0 k0 k1 p7 p8 p9
          go_wp2_with fail
          refine HA2.out.mono ?_
          rintro e w5 ⟨rfl, c5, T5, h5, t5⟩
          rw [HNX.out.1]
          obtain ⟨L2, hL2⟩ : ∃ L2, adL cs L ((k : Int) + 1) K 2 = L2 := ⟨_, rfl⟩
          have hids := HNX.out.2
          rw [hL2] at hids h5
          obtain ⟨c3, h3, s3⟩ := H3.out
          rw [hL2] at h3
          obtain ⟨hb2, hc2⟩ := Bo.two (hg.grow gq) (hr.grow gq) HD.out c3 h3 s3 c5 h5 t5
          have HM2 := hide (⟨hb2, hids, (HMK.out.cz.step gq fun _ _ h => h.elim).trans hc2, hL2 ▸ rv_add HMK.out.rv _ _ _, hL2 ▸ fv_add HMK.out.fv _ _ _⟩ : Mk w4 w5 z p q (.slice (some ⟨cb, co, none⟩) cl cc) cs (k + 1) L2)
          clear hb2 hc2 hids h5 h3 c3 s3 c5 t5 hL2 hg hr HMK HA2 H3 HNX
          go_wp2
          go_roundw
          case rel => exact ⟨k + 1, L2, HK.out, rfl, HM2.out⟩
          case measure => have := HK.out; simp [Go.RowKit.intOf]; omega
        · as_aux_lemma =>
          have HP9 := hide (show (c.k == 2) = false by simpa using h2)
          have HNX := hide (add_next (k := k) (l := 0) HMK.out.ids HCL.out (.inl rfl))
          clear h2
          generalize c.k = ck at *
          go_wp2_with fail
          go_quiet (fail)
          rw [HPP.out.1]
          clear hcx p1 p2 p3 p4 p5 q1
          obtain ⟨-, p7, p8⟩ := HPP.out
          have gq : Grow wr (wr.drewN nq) := (Chg.refl (fun _ => False) wr).drewN nq
          replace k0 := gq.cell k0
          replace hc0 := gq.cell hc0
          generalize wr.drewN nq = wq at *
          have p9 := HP9.out
          go_wp2_with fail
          refine (HS1.out _ gq 0).mono ?_
          rintro e w3 ⟨rfl, c3, S3, h3, s3⟩
          rw [HNX.out.1]
          have HA2 := hide (HS2.out _ w3 gq c3 0)
          have H3 := hide (And.intro c3 (And.intro h3 s3))
          clear c3 h3 s3 HS1 HS2 hc0 k0 k1 p7 p8 p9
          go_wp2_with fail
          refine HA2.out.mono ?_
          rintro e w5 ⟨rfl, c5, T5, h5, t5⟩
          rw [HNX.out.1]
          obtain ⟨L2, hL2⟩ : ∃ L2, adL cs L ((k : Int) + 1) K 0 = L2 := ⟨_, rfl⟩
          have hids := HNX.out.2
          rw [hL2] at hids h5
          obtain ⟨c3, h3, s3⟩ := H3.out
          rw [hL2] at h3
          obtain ⟨hb2, hc2⟩ := Bo.two (hg.grow gq) (hr.grow gq) HD.out c3 h3 s3 c5 h5 t5
          have HM2 := hide (⟨hb2, hids, (HMK.out.cz.step gq fun _ _ h => h.elim).trans hc2, hL2 ▸ rv_add HMK.out.rv _ _ _, hL2 ▸ fv_add HMK.out.fv _ _ _⟩ : Mk w4 w5 z p q (.slice (some ⟨cb, co, none⟩) cl cc) cs (k + 1) L2)
          clear hb2 hc2 hids h5 h3 c3 s3 c5 t5 hL2 hg hr HMK HA2 H3 HNX
          go_wp2
          go_roundw
          case rel => exact ⟨k + 1, L2, HK.out, rfl, HM2.out⟩
          case measure => have := HK.out; simp [Go.RowKit.intOf]; omega
  · have hbl := (Blk.new w4 43 [.slice ca cl cc, .slice none 0 0]).drew.chg c5 id
    have gb4 : Grow w4 w5 := ((Chg.refl _ w4).alloc _).drew.trans c5
    have hz4 : z ≤ w4.heap.size := by have := HBZ.out.2.2; omega
    have HM := hide (⟨⟨S, (· = w4.heap.size), hg, rg_new hbl hz4, fun k hk e => by have := hs k hk; simp at this; omega⟩, rfl, gb4.mono fun _ _ h => h.elim, (fun x hx => by cases hx), fun x hx => by cases hx⟩ : Mk w4 w5 z p w4.heap.size (.slice ca cl cc) cs 0 [])
    clear hbl gb4 hz4 hg hs c5 HNG HK k0 HW4 HB4
    generalize w5 = wm at *
    generalize w4.heap.size = q at *
    obtain ⟨k0, k1, k2⟩ := HCELL.out _ HM.out.cz
    go_wp2_with fail
    clear k0 k1 k2
    go_loopw [61] (fun v wr => ∃ (k : Nat) (L : List Nd), k ≤ nl ∧ v = .int .i64 k ∧ Mk w4 wr z p q (.slice ca cl cc) cs k L) (fun v _ => nl - (Go.RowKit.intOf v).toNat)
    case atStart => exact ⟨0, [], Nat.zero_le _, rfl, HM.out⟩
    case round =>
      clear HM
      obtain ⟨k, L, hk, rfl, hmk⟩ := hrel
      rcases Nat.eq_or_lt_of_le hk with hke | hlt
      · have hke2 := hke.symm
        subst hke2
        clear hke hk
        have q1 : decide ((nl : Int) < nl) = false := by simp
        have HM := hide hmk
        clear hmk
        obtain ⟨-, -, k2⟩ := HCELL.out _ HM.out.cz
        go_wp2_with fail
        clear k2 q1
        go_loopw [99] (fun v wr => ∃ (k : Nat) (L : List Nd), k ≤ rl ∧ v = .int .i64 k ∧ Mk w4 wr z p q (.slice ca cl cc) cs nl L) (fun v _ => rl - (Go.RowKit.intOf v).toNat)
        case atStart => exact ⟨0, L, Nat.zero_le _, rfl, HM.out⟩
        case round =>
          clear HM L
          obtain ⟨k, L, hk, rfl, hmk⟩ := hrel
          have HFIN := hide (show ∀ wx, Mk w4 wx z p q (.slice ca cl cc) cs nl L → w.heap.size ≤ z ∧ Grow w wx from fun wx hm => ⟨by have := HBZ.out; omega, HG4.out.step hm.cz fun i hi h => by have := HBZ.out; have := h; omega⟩)
          rcases Nat.eq_or_lt_of_le hk with hke | hlt
          · have hke2 := hke.symm
            subst hke2
            clear hke hk
            have q1 : decide ((rl : Int) < rl) = false := by simp
            have HM := hide hmk
            clear hmk
            go_wp2
            go_returns
            exact ⟨z, p, q, L, rfl, HM.out.bo, HM.out.ids, HM.out.rv, HM.out.fv, (HFIN.out _ HM.out).1, (HFIN.out _ HM.out).2⟩
          · have q1 : decide ((k : Int) < rl) = true := decide_eq_true (by omega)
            obtain ⟨-, k1, k2⟩ := HCELL.out _ hmk.cz
            have HK := hide hlt
            have hw : IntKind.i64.wrap ((k : Int) + 1) = ((k + 1 : Nat) : Int) := (IntWalk.i64_in _ (by have := HL.out; omega)).trans (by omega)
            by_cases hn0 : nl = 0
            · as_aux_lemma =>
              have q2 : ((nl : Int) == 0) = true := by simp; omega
              have HM := hide hmk
              clear hmk hn0 hlt hk hw
              go_wp2
              go_returns
              exact ⟨z, p, q, L, rfl, HM.out.bo, HM.out.ids, HM.out.rv, HM.out.fv, (HFIN.out _ HM.out).1, (HFIN.out _ HM.out).2⟩
            · as_aux_lemma =>
              have q2 : ((nl : Int) == 0) = false := by simp; omega
              have hwo := HWW.out _ hmk.cz
              obtain ⟨tb', to', t, hra, -, ⟨ha, hb, hc⟩, x0, x1, x2⟩ := hwo.r.at_ hlt
              dsimp only at hra
              obtain ⟨ta, tbb, tc⟩ := t
              dsimp only at ha hb hc x0 x1 x2
              obtain ⟨aa, haa, hal⟩ := rem_is ta nl (by omega)
              obtain ⟨tt, htt, htl⟩ := rem_is tc (nl + 1) (by omega)
              obtain ⟨N1, hN1⟩ : ∃ N1 : Int, ((nl + 1 : Nat) : Int) = N1 := ⟨_, rfl⟩
              rw [hN1] at htt
              have p0 : N1 ≠ 0 := by omega
              have hlen : L.length = nl := by have := congrArg List.length hmk.ids; rwa [List.length_map, nms_len] at this
              obtain ⟨x, hx, hxi⟩ := nms_at hmk.ids hal
              obtain ⟨S, T, hg, hr, hd⟩ := hmk.bo
              have HLOK := hide hg.lok
              obtain ⟨v, r, d, ow, hrf⟩ := hr
              obtain ⟨gn, vc, rfl, -, -, -, -, -, y2, -⟩ := hrf.at_ hx
              have y1 := hrf.cell1
              rw [hlen] at y1
              have hr : RG wr z T q (.slice ca cl cc) L := ⟨_, _, _, _, hrf⟩
              obtain ⟨M, hM⟩ : ∃ M, x.refs.length = M := ⟨_, rfl⟩
              rw [hM] at y2
              have hM30 : M ≤ 30 := by rw [← hM]; exact (hg.ok (List.mem_of_getElem? hx)).rl
              generalize r x.id = rb at *
              have HAT := hide (⟨hal, htl, ha, hb, hc, hM30, hlen, hN1⟩ : aa < nl ∧ tt < nl + 1 ∧ (0 ≤ ta ∧ ta ≤ 255) ∧ (0 ≤ tbb ∧ tbb ≤ 255) ∧ (0 ≤ tc ∧ tc ≤ 255) ∧ M ≤ 30 ∧ L.length = nl ∧ ((nl + 1 : Nat) : Int) = N1)
              have hll : L.length < 1000000 := by rw [hlen]; have := HL.out; omega
              have HM := hide hmk
              have HD := hide hd
              have HG := hide hg
              have HR := hide hr
              have HY := hide (And.intro y1 y2)
              have HWA := hide (wr_small aa (by have := HL.out; omega))
              have HP8 := hide (show aa < nl from hal)
              have p3 : (0 : Int) ≤ ta := ha.1
              have p4 : (0 : Int) ≤ tc := hc.1
              have p5 : (nl : Int) ≠ 0 := by omega
              have p7 : k < rl := hlt
              obtain ⟨A, hA⟩ : ∃ A : Int, (aa : Int) + 1 = A := ⟨_, rfl⟩
              have HAI := hide (show In64 A from (show (Lit.int .i64 _).wf = true by simp [Lit.wf, IntKind.min, IntKind.max, IntKind.signed, IntKind.bits]; have := HL.out; omega))
              have HTI := hide (show In64 (tt : Int) from (show (Lit.int .i64 _).wf = true by simp [Lit.wf, IntKind.min, IntKind.max, IntKind.signed, IntKind.bits]; have := HL.out; omega))
              have HTB := hide (tri_b tbb M hb)
              obtain ⟨p1, p1', p2, p2', p6, p6'⟩ := tri_facts ta tc nl ha hc (by have := HL.out; omega)
              rw [hN1] at p6 p6'
              have HX1 := hide x1
              have HPA := hide (show wrap64 (1 + (aa : Int)) = A ∧ IntKind.i64.wrap (A - 1) = aa ∧ aa < nl from by
                obtain ⟨-, -, e1, e2, -⟩ := HWA.out
                rw [hA] at e1 e2
                exact ⟨e1, e2, HP8.out⟩)
              subst hra
              clear hmk hwo hlt hk hd hg hr hrf hlen hN1 hM30 hx hxi hM hal htl ha hb hc y1 y2 hn0 HP8 HWA hA x1
              go_wp2_with fail
              go_quiet (fail)
              rw [HPA.out.1, htt]
              have gq : Grow wr (wr.drewN nq) := (Chg.refl (fun _ => False) wr).drewN nq
              have y1 := gq.cell HY.out.1
              have y2 := gq.cell HY.out.2
              have x1 := gq.cell HX1.out
              have k2 := gq.cell k2
              have HGQ := hide gq
              generalize wr.drewN nq = wq at *
              obtain ⟨-, p8, p9⟩ := HPA.out
              clear p1 p1' p2 p2' p3 p4 p5 p6 p6' p0 haa htt x0 x2 k1 HPA q1 q2 HX1 HY gq
              by_cases hM0 : M = 0
              · have q3 : decide ((M : Int) > 0) = false := by simp; omega
                have q4 : ¬ 0 < M := by omega
                have q5 : decide (0 < M) = false := decide_eq_false q4
                have HM2 := hide (HM.out.grow HGQ.out)
                clear hM0 k2 x1
                go_wp2
                go_roundw
                case rel => exact ⟨k + 1, L, HK.out, rfl, HM2.out⟩
                case measure => have := HK.out; simp [Go.RowKit.intOf]; omega
              · have q3 : decide ((M : Int) > 0) = true := by simp; omega
                obtain ⟨bb, hbb, hbl⟩ := rem_is tbb M (by omega)
                have HBI := hide (show In64 (bb : Int) from (show (Lit.int .i64 _).wf = true by simp [Lit.wf, IntKind.min, IntKind.max, IntKind.signed, IntKind.bits]; have := HAT.out.2.2.2.2.2.1; omega))
                obtain ⟨r1, r2, r3⟩ := HTB.out
                have r4 : (M : Int) ≠ 0 := by omega
                have r5 : 0 < M := by omega
                have HS1 := hide (setref_gs (HG.out.grow HGQ.out) HAI.out HBI.out HTI.out)
                have HS2 := hide (fun (W' : World) (c' : Chg S wq W') => setref_r (i := A) (t0 := (bb : Int)) (t := (tt : Int)) ((HR.out.grow HGQ.out).chg c' fun j hj hs => HD.out j hs hj) HLOK.out hll)
                have HIDS := hide (srL_ids L A bb tt)
                have HFV := hide (fv_set HM.out.fv A bb tt)
                have HRV := hide (rv_set HM.out.rv A bb tt (by omega) (by have := HAT.out.2.1; have := HAT.out.2.2.2.2.2.2.1; omega))
                generalize srX L A bb tt = X at *
                generalize srL L A bb tt = L2 at *
                clear hM0 hbl
                go_wp2_with fail
                refine HS1.out.mono ?_
                rintro e w3 ⟨rfl, c3, h3⟩
                have HA2 := hide (HS2.out w3 c3)
                have H3 := hide (And.intro c3 h3)
                clear c3 h3 HS1 HS2 y1 y2 x1 k2 p8 p9 r1 r2 r3 r4 r5 q3
                go_wp2_with fail
                refine HA2.out.mono ?_
                rintro e w5 ⟨rfl, c5, h5⟩
                obtain ⟨c3, h3⟩ := H3.out
                obtain ⟨hb2, hc2⟩ := Bo.two (HG.out.grow HGQ.out) (HR.out.grow HGQ.out) HD.out c3 h3 (fun j hj => .inl hj) c5 h5 (fun j hj => .inl hj)
                have HM2 := hide (⟨hb2, HIDS.out.trans HM.out.ids, (HM.out.cz.step HGQ.out fun _ _ h => h.elim).trans hc2, HRV.out, HFV.out⟩ : Mk w4 w5 z p q (.slice ca cl cc) cs nl L2)
                clear hb2 hc2 h5 h3 c3 c5 HA2 H3 hbb
                go_wp2
                go_roundw
                case rel => exact ⟨k + 1, L2, HK.out, rfl, HM2.out⟩
                case measure => have := HK.out; simp [Go.RowKit.intOf]; omega
      · have q1 : decide ((k : Int) < nl) = true := decide_eq_true (by omega)
        obtain ⟨k0, k1, -⟩ := HCELL.out _ hmk.cz
        have hwo := HWW.out _ hmk.cz
        obtain ⟨xa, hxa, hcx, hwf⟩ := hwo.n.at_ hlt
        dsimp only at hxa
        have hbd := bounds_u8 hwf
        generalize ns.getD k 0 = t at *
        obtain ⟨kk, hkk, hkl⟩ : ∃ kk : Nat, t % (cl : Int) = kk ∧ kk < cl := ⟨(t % (cl : Int)).toNat, by have := Int.emod_nonneg t (show (cl : Int) ≠ 0 by have := HL.out; omega); omega, by have := Int.emod_lt_of_pos t (show (0 : Int) < cl by have := HL.out; omega); have := Int.emod_nonneg t (show (cl : Int) ≠ 0 by have := HL.out; omega); omega⟩
        obtain ⟨cb, co, c, hca, hcc, hat, -⟩ := hwo.c.at_ hkl
        dsimp only at hca
        have hc0 := hat.1
        have hcl : clAt cs ((kk : Int) + 1) = some c := L5.clAt_at hcc
        obtain ⟨S, T, hg, hr, hd⟩ := hmk.bo
        have hll : L.length < 1000000 := by have := congrArg List.length hmk.ids; rw [List.length_map, nms_len] at this; have := HL.out; omega
        have hki : In64 ((k : Int) + 1) := (show (Lit.int .i64 _).wf = true by simp [Lit.wf, IntKind.min, IntKind.max, IntKind.signed, IntKind.bits]; have := HL.out; omega)
        have HS1 := hide (fun (W : World) (g : Grow wr W) (l : Int) => add_gs (hg.grow g) hll hki ((kk : Int) + 1) l)
        have HS2 := hide (fun (W W' : World) (g : Grow wr W) (c' : Chg S W W') (l : Int) => add_r ((hr.grow g).chg c' fun j hj hs => hd j hs hj) (HWW.out W' ((hmk.cz.step g fun _ _ h => h.elim).step c' fun j _ hs => (hg.s hs).1)).c hg.lok HRT.out.1 hll (by have := HL.out; omega) ((k : Int) + 1) ((kk : Int) + 1) l)
        have HMK := hide hmk
        have HK := hide hlt
        have hw0 : IntKind.i64.wrap ((k : Int) + 1) = ((k : Int) + 1) := IntWalk.i64_in _ (by have := HL.out; omega)
        have hw : IntKind.i64.wrap ((k : Int) + 1) = ((k + 1 : Nat) : Int) := (IntWalk.i64_in _ (by have := HL.out; omega)).trans (by omega)
        have hk64 : kk < 64 := by have := HL.out; omega
        have HP8 := hide (show decide ((kk : Int) < (cl : Int)) = true from decide_eq_true (by omega))
        have p1 : IntKind.i64.wrap t = t := IntWalk.i64_in _ (by omega)
        have p2 : ((cl : Int)) ≠ 0 := by have := HL.out; omega
        have p3 : (0 : Int) ≤ t := hbd.1
        have p4 : k < nl := hlt
        have p5 : wrap64 t = t := wrap64_id _ (by omega)
        subst hxa hca
        clear hmk hwo hat hcc hlt hk hwf hbd hki hll
        obtain ⟨K, hK⟩ : ∃ K : Int, (kk : Int) + 1 = K := ⟨_, rfl⟩
        obtain ⟨-, -, p6, p7, -⟩ := wr_small kk hk64
        rw [hK] at p6 p7 hcl HS1 HS2
        have HPP := hide (And.intro p6 (And.intro p7 HP8.out))
        clear hk64 hK p6 p7 HP8
        have HCL := hide hcl
        have HD := hide hd
        clear hcl hd
        by_cases h2 : c.k = 2
        · as_aux_lemma =>
          have HP9 := hide (show (c.k == 2) = true by simpa using h2)
          have HNX := hide (add_next (k := k) (l := 2) HMK.out.ids HCL.out (.inr ⟨rfl, h2⟩))
          clear h2
          generalize c.k = ck at *
          go_wp2_with fail
          go_quiet (fail)
          rw [HPP.out.1]
          clear hcx p1 p2 p3 p4 p5 q1
          obtain ⟨-, p7, p8⟩ := HPP.out
          have gq : Grow wr (wr.drewN nq) := (Chg.refl (fun _ => False) wr).drewN nq
          replace k0 := gq.cell k0
          replace hc0 := gq.cell hc0
          generalize wr.drewN nq = wq at *
          have p9 := HP9.out
          go_wp2_with fail
          refine (HS1.out _ gq 2).mono ?_
          rintro e w3 ⟨rfl, c3, S3, h3, s3⟩
          rw [HNX.out.1]
          have HA2 := hide (HS2.out _ w3 gq c3 2)
          have H3 := hide (And.intro c3 (And.intro h3 s3))
          clear c3 h3 s3 HS1 HS2 hc0 k0 k1 p7 p8 p9
          go_wp2_with fail
          refine HA2.out.mono ?_
          rintro e w5 ⟨rfl, c5, T5, h5, t5⟩
          rw [HNX.out.1]
          obtain ⟨L2, hL2⟩ : ∃ L2, adL cs L ((k : Int) + 1) K 2 = L2 := ⟨_, rfl⟩
          have hids := HNX.out.2
          rw [hL2] at hids h5
          obtain ⟨c3, h3, s3⟩ := H3.out
          rw [hL2] at h3
          obtain ⟨hb2, hc2⟩ := Bo.two (hg.grow gq) (hr.grow gq) HD.out c3 h3 s3 c5 h5 t5
          have HM2 := hide (⟨hb2, hids, (HMK.out.cz.step gq fun _ _ h => h.elim).trans hc2, hL2 ▸ rv_add HMK.out.rv _ _ _, hL2 ▸ fv_add HMK.out.fv _ _ _⟩ : Mk w4 w5 z p q (.slice (some ⟨cb, co, none⟩) cl cc) cs (k + 1) L2)
          clear hb2 hc2 hids h5 h3 c3 s3 c5 t5 hL2 hg hr HMK HA2 H3 HNX
          go_wp2
          go_roundw
          case rel => exact ⟨k + 1, L2, HK.out, rfl, HM2.out⟩
          case measure => have := HK.out; simp [Go.RowKit.intOf]; omega
        · as_aux_lemma =>
          have HP9 := hide (show (c.k == 2) = false by simpa using h2)
          have HNX := hide (add_next (k := k) (l := 0) HMK.out.ids HCL.out (.inl rfl))
          clear h2
          generalize c.k = ck at *
          go_wp2_with fail
          go_quiet (fail)
          rw [HPP.out.1]
          clear hcx p1 p2 p3 p4 p5 q1
          obtain ⟨-, p7, p8⟩ := HPP.out
          have gq : Grow wr (wr.drewN nq) := (Chg.refl (fun _ => False) wr).drewN nq
          replace k0 := gq.cell k0
          replace hc0 := gq.cell hc0
          generalize wr.drewN nq = wq at *
          have p9 := HP9.out
          go_wp2_with fail
          refine (HS1.out _ gq 0).mono ?_
          rintro e w3 ⟨rfl, c3, S3, h3, s3⟩
          rw [HNX.out.1]
          have HA2 := hide (HS2.out _ w3 gq c3 0)
          have H3 := hide (And.intro c3 (And.intro h3 s3))
          clear c3 h3 s3 HS1 HS2 hc0 k0 k1 p7 p8 p9
          go_wp2_with fail
          refine HA2.out.mono ?_
          rintro e w5 ⟨rfl, c5, T5, h5, t5⟩
          rw [HNX.out.1]
          obtain ⟨L2, hL2⟩ : ∃ L2, adL cs L ((k : Int) + 1) K 0 = L2 := ⟨_, rfl⟩
          have hids := HNX.out.2
          rw [hL2] at hids h5
          obtain ⟨c3, h3, s3⟩ := H3.out
          rw [hL2] at h3
          obtain ⟨hb2, hc2⟩ := Bo.two (hg.grow gq) (hr.grow gq) HD.out c3 h3 s3 c5 h5 t5
          have HM2 := hide (⟨hb2, hids, (HMK.out.cz.step gq fun _ _ h => h.elim).trans hc2, hL2 ▸ rv_add HMK.out.rv _ _ _, hL2 ▸ fv_add HMK.out.fv _ _ _⟩ : Mk w4 w5 z p q (.slice (some ⟨cb, co, none⟩) cl cc) cs (k + 1) L2)
          clear hb2 hc2 hids h5 h3 c3 s3 c5 t5 hL2 hg hr HMK HA2 H3 HNX
          go_wp2
          go_roundw
          case rel => exact ⟨k + 1, L2, HK.out, rfl, HM2.out⟩
          case measure => have := HK.out; simp [Go.RowKit.intOf]; omega
end
end Go.Proofs.YtjfpjnhlnoiekaaGreat.L13
