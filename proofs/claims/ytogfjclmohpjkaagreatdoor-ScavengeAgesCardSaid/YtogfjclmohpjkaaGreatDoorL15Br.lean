/- What the plain Reach answers. Conditions: what At answers of the objects that are reached. -/
import Derived.Test.YtogfjclmohpjkaaGreatDoorL15Bp
namespace Go.Proofs.YtogfjclmohpjkaaGreatDoor.L15
open Go.ChangeShapes Go.WideShapes Go.ChangeAt Go.RowKit
open Go.Proofs.YtogfjclmohpjkaaGreatDoor.L1 (Sl Ar RAr ptr exB)
open Go.Proofs.YtogfjclmohpjkaaGreatDoor.L5 (Cl clV rtB Tb clAt shX shR shD IsCls)
set_option linter.unusedVariables false
set_option maxRecDepth 100000
theorem place_neg {l : List Int} {x : Int} : place l x < 0 ↔ x ∉ l := by
  induction l with
  | nil => simp [place]
  | cons a l ih =>
    unfold place
    by_cases e : a = x
    · rw [if_pos e]; simp [e]
    · rw [if_neg e]
      have hb := place_bd l x
      by_cases h : place l x = -1
      · rw [if_pos h]
        have : x ∉ l := ih.1 (by omega)
        simp [this, Ne.symm e]
      · rw [if_neg h]
        have hx : x ∈ l := Classical.byContradiction fun hn => by have := ih.2 hn; omega
        simp [hx]
        omega
/-- An object as At tells it. -/
abbrev obV (o : Ob) (vr vd : Value) : Value := .agg #[.int .i64 o.C, .int .i64 o.A, .int .i64 o.F, .bool o.m, .bool o.f, .bool o.d, .int .i64 o.l, vr, vd]
/-- At answers of these objects. -/
def Ats (w : World) (sv : Value) (ob : Int → Ob) (L : List Int) : Prop := ∀ W, Grow w W → ∀ x ∈ L, Calls Tryz.prog 51 #[sv, .int .i64 x] W fun e w' => ∃ vr vd, e = .returned (obV (ob x) vr vd) ∧ OL w' W.heap.size vr (ob x).rs ∧ OL w' W.heap.size vd (ob x).ds ∧ Grow W w'
theorem adds_le' (xs : List Int) : ∀ out : List Int, (adds out xs).length ≤ out.length + xs.length := by
  induction xs with
  | nil => intro out; exact Nat.le_refl _
  | cons a xs ih =>
    intro out
    have h1 := ih (addN out a)
    have h2 : (addN out a).length ≤ out.length + 1 := by unfold addN; split <;> simp
    simp only [adds_cons, List.length_cons]
    omega
theorem adds_le {fr : List Int} (k : Nat) : (adds [] (fr.take k)).length ≤ k := by
  have := adds_le' (fr.take k) []
  simp at this
  omega
theorem adds_one {out : List Int} {x : Int} : adds out [x] = addN out x := rfl
theorem addN_le {out : List Int} {x : Int} : (addN out x).length ≤ out.length + 1 := by
  unfold addN; split <;> simp
section
variable {w w' W : World} {q z cl cp fn fc : Nat} {ca fa : Option Addr} {fr res L : List Int} {ob : Int → Ob}
theorem new9 {w0 w : World} {g : Nat} (f : Fresh w0 g) (c : Grow w0 w) (a0 a1 a2 a3 a4 a5 a6 a7 a8 : Value) : Grow w0 (((((((((w.setCell ⟨g, 0, none⟩ a0).setCell ⟨g, 1, none⟩ a1).setCell ⟨g, 2, none⟩ a2).setCell ⟨g, 3, none⟩ a3).setCell ⟨g, 4, none⟩ a4).setCell ⟨g, 5, none⟩ a5).setCell ⟨g, 6, none⟩ a6).setCell ⟨g, 7, none⟩ a7).setCell ⟨g, 8, none⟩ a8) :=
  f.put (f.put (f.put (f.put (f.put (f.put (f.put (f.put (f.put (c) 0 a0) 1 a1) 2 a2) 3 a3) 4 a4) 5 a5) 6 a6) 7 a7) 8 a8
abbrev zs9 : List Value := [.int .i64 0, .int .i64 0, .int .i64 0, .bool false, .bool false, .bool false, .int .i64 0, .slice none 0 0, .slice none 0 0]
theorem fr9 {t : TypeId} {r : Nat} {cs : List Value} (h : Blk w r t cs) : w.frozen? ⟨r, 0, none⟩ = false ∧ w.frozen? ⟨r, 1, none⟩ = false ∧ w.frozen? ⟨r, 2, none⟩ = false ∧ w.frozen? ⟨r, 3, none⟩ = false ∧ w.frozen? ⟨r, 4, none⟩ = false ∧ w.frozen? ⟨r, 5, none⟩ = false ∧ w.frozen? ⟨r, 6, none⟩ = false ∧ w.frozen? ⟨r, 7, none⟩ = false ∧ w.frozen? ⟨r, 8, none⟩ = false :=
  ⟨h.frozen 0, h.frozen 1, h.frozen 2, h.frozen 3, h.frozen 4, h.frozen 5, h.frozen 6, h.frozen 7, h.frozen 8⟩
theorem ce9 {t : TypeId} {r : Nat} {a0 a1 a2 a3 a4 a5 a6 a7 a8 : Value} (h : Blk w r t [a0, a1, a2, a3, a4, a5, a6, a7, a8]) : w.cell? ⟨r, 0, none⟩ = some a0 ∧ w.cell? ⟨r, 1, none⟩ = some a1 ∧ w.cell? ⟨r, 2, none⟩ = some a2 ∧ w.cell? ⟨r, 3, none⟩ = some a3 ∧ w.cell? ⟨r, 4, none⟩ = some a4 ∧ w.cell? ⟨r, 5, none⟩ = some a5 ∧ w.cell? ⟨r, 6, none⟩ = some a6 ∧ w.cell? ⟨r, 7, none⟩ = some a7 ∧ w.cell? ⟨r, 8, none⟩ = some a8 :=
  ⟨h.cell 0, h.cell 1, h.cell 2, h.cell 3, h.cell 4, h.cell 5, h.cell 6, h.cell 7, h.cell 8⟩
theorem put9 {t : TypeId} {g : Nat} {b0 b1 b2 b3 b4 b5 b6 b7 b8 : Value} (h : Blk w g t [b0, b1, b2, b3, b4, b5, b6, b7, b8]) (a0 a1 a2 a3 a4 a5 a6 a7 a8 : Value) : Blk (((((((((w.setCell ⟨g, 0, none⟩ a0).setCell ⟨g, 1, none⟩ a1).setCell ⟨g, 2, none⟩ a2).setCell ⟨g, 3, none⟩ a3).setCell ⟨g, 4, none⟩ a4).setCell ⟨g, 5, none⟩ a5).setCell ⟨g, 6, none⟩ a6).setCell ⟨g, 7, none⟩ a7).setCell ⟨g, 8, none⟩ a8) g t [a0, a1, a2, a3, a4, a5, a6, a7, a8] :=
  (((((((((h.set_ 0 a0).set_ 1 a1).set_ 2 a2).set_ 3 a3).set_ 4 a4).set_ 5 a5).set_ 6 a6).set_ 7 a7).set_ 8 a8)
theorem chg9 {w0 w : World} {g : Nat} (c : Chg (· = g) w0 w) (a0 a1 a2 a3 a4 a5 a6 a7 a8 : Value) : Chg (· = g) w0 (((((((((w.setCell ⟨g, 0, none⟩ a0).setCell ⟨g, 1, none⟩ a1).setCell ⟨g, 2, none⟩ a2).setCell ⟨g, 3, none⟩ a3).setCell ⟨g, 4, none⟩ a4).setCell ⟨g, 5, none⟩ a5).setCell ⟨g, 6, none⟩ a6).setCell ⟨g, 7, none⟩ a7).setCell ⟨g, 8, none⟩ a8) :=
  (((((((((c.set1 0 a0).set1 1 a1).set1 2 a2).set1 3 a3).set1 4 a4).set1 5 a5).set1 6 a6).set1 7 a7).set1 8 a8)
set_option maxHeartbeats 4000000 in
theorem reach_any (hA : Ats w (rsV q ca cl cp) ob L) (hf : L1.Rd w fa fn fr) (hfn : fn < 100000) (hfr : ∀ x ∈ fr, x = 0 ∨ x ∈ L) (hc : ∀ x ∈ L, ∀ r ∈ (ob x).rs, r = 0 ∨ r ∈ L) (hr : ∀ x ∈ L, (ob x).rs.length ≤ 100) (hn : L.length ≤ 100000) (hres : Rch ob fr res) :
    Calls Tryz.prog 18 #[rsV q ca cl cp, .slice fa fn fc] w fun e w' => ∃ v, e = .returned v ∧ OL w' w.heap.size v res ∧ Grow w w' := by
  have HA := hide hA
  have HF := hide hf
  have HFN := hide hfn
  have HFR := hide hfr
  have HCL := hide hc
  have HLN := hide hn
  have HRL := hide hr
  have HRES := hide hres
  clear hA hf hfn hfr hc hn hr hres
  obtain ⟨hs, cc, fs⟩ := boxes1 w 57 [ptr q, .slice ca cl cp]
  go_enter Tryz.func18, Tryz.ntmps18
  go_wp2_with fail
  have HS := hide hs
  have HC3 := hide cc
  clear hs cc
  generalize w.alloc (.cells #[ptr q, .slice ca cl cp] 57) = w3 at *
  generalize hsb : w.heap.size = sb at *
  go_loopw [5, 12] (fun u v wr => ∃ k : Nat, k ≤ fn ∧ v = .int .i64 k ∧ OL wr w3.heap.size u (adds [] (fr.take k)) ∧ Grow w3 wr) (fun _ v _ => fn - (intOf v).toNat)
  case atStart => exact ⟨0, Nat.zero_le _, rfl, ol_nil _ _, Chg.refl _ _⟩
  case round =>
    obtain ⟨k, hk, rfl, ho, gg⟩ := hrel
    rcases Nat.eq_or_lt_of_le hk with hke | hlt
    · subst hke
      have q1 : decide ((k : Int) < k) = false := by simp
      rw [List.take_of_length_le (by rw [HF.out.1]; exact Nat.le_refl _)] at ho
      have HO := hide ho
      have HG := hide gg
      clear ho gg hk
      go_wp2_with fail
      go_loopw [5, 7] (fun u v wr => ∃ (i : Nat) (OUT : List Int), v = .int .i64 i ∧ OL wr w3.heap.size u OUT ∧ Bf (fun a => (ob a).rs) OUT i res ∧ (∀ x ∈ OUT, x ∈ L) ∧ OUT.Nodup ∧ Grow w3 wr) (fun _ v _ => 200000 - (intOf v).toNat)
      case atStart => exact ⟨0, adds [] fr, rfl, HO.out, HRES.out, adds_D _ (fun z hz => by cases hz) (fun y hy h0 => (HFR.out y hy).resolve_left h0), adds_nodup _ List.nodup_nil, HG.out⟩
      case round =>
        clear HO HG
        obtain ⟨i, OUT, rfl, ho, hbf, hsub, hnd, gg⟩ := hrel
        have hol : OUT.length ≤ 100000 := Nat.le_trans (nodup_len hnd hsub) HLN.out
        obtain ⟨va, vc, hv⟩ := own_len ho
        subst hv
        have HO := hide ho
        have HG := hide gg
        rcases hbf.inv with ⟨hge, hres⟩ | ⟨hlt, hbf'⟩
        · have q5 : decide (i < OUT.length) = false := decide_eq_false (by omega)
          have q5' : decide ((i : Int) < (OUT.length : Int)) = false := decide_eq_false (by omega)
          have HE := hide (show OL wr w.heap.size (.slice va OUT.length vc) res from by
            rw [hres]
            exact ho.lower (by have := HC3.out.size; omega))
          clear ho gg hbf hsub hnd hol hge hres
          go_wp2
          go_ret
          exact ⟨_, rfl, HE.out, HC3.out.trans HG.out⟩
        · have q5 : decide (i < OUT.length) = true := decide_eq_true (by omega)
          have q5' : decide ((i : Int) < (OUT.length : Int)) = true := decide_eq_true (by omega)
          have hxl : OUT.getD i 0 ∈ L := hsub _ (getD_mem hlt)
          have HBF := hide hbf'
          have HSUB := hide (And.intro hsub hnd)
          have HLT := hide hlt
          obtain ⟨ad, hva, hcx⟩ := (own_rd ho).at_ hlt
          obtain ⟨y, hy⟩ : ∃ y, OUT.getD i 0 = y := ⟨_, rfl⟩
          rw [hy] at hcx hxl HBF
          have HYL := hide hxl
          have HOL := hide hol
          have HAY := hide (fun W (c : Grow wr W) => HA.out W ((HC3.out.trans gg).trans c) y hxl)
          have hw7 : IntKind.i64.wrap ((i : Int) + 1) = ((i + 1 : Nat) : Int) := (IntWalk.i64_in _ (by omega)).trans (by omega)
          have hs := HS.out.chg gg id
          subst hva
          clear ho gg hbf hbf' hsub hnd hxl hy hol
          have q6 : i < OUT.length := hlt
          clear hlt
          go_wp2_with fail
          have HSS := hide hs
          have HCX := hide hcx
          have HK := hide (fun W (c : Grow wr W) => show W.cell? ⟨sb, 0, none⟩ = some (ptr q) ∧ W.cell? ⟨sb, 1, none⟩ = some (.slice ca cl cp) ∧ W.cell? (ad.add i) = some (.int .i64 y) from ⟨(HSS.out.chg c id).cell 0, (HSS.out.chg c id).cell 1, c.cell HCX.out⟩)
          have hk0 := HK.out wr (Chg.refl _ _)
          clear hs hcx
          have hk1 := HK.out wr.drew (Chg.drew (Chg.refl _ _))
          have hk2 := HK.out (wr.alloc (.cells zs9.toArray 105)).drew (Chg.drew ((Chg.refl _ _).alloc _))
          have hk3 := HK.out (wr.drew.alloc (.cells zs9.toArray 105)) ((Chg.drew (Chg.refl _ _)).alloc _)
          go_region_held3 (fun W => W.cell? ⟨sb, 0, none⟩ = some (ptr q) ∧ W.cell? ⟨sb, 1, none⟩ = some (.slice ca cl cp) ∧ W.cell? (ad.add i) = some (.int .i64 y))
            (first | with_reducible exact hk0 | with_reducible exact hk1 | with_reducible exact hk2 | with_reducible exact hk3 | with_reducible exact hk4 | with_reducible exact hk5 | with_reducible exact hk6)
            (first | (go_at_call 51; with_reducible refine (HAY.out _ (Chg.drew (Chg.refl _ _))).mono ?_; rintro e w6 ⟨vr, vd, rfl, hvr, hvd, g6⟩; (obtain ⟨ra, rc, rfl⟩ := own_len hvr); (obtain ⟨da, dc, rfl⟩ := own_len hvd); (have hk4 := HK.out w6 (Chg.trans (Chg.drew (Chg.refl _ _)) g6)); (have hk5 := HK.out (w6.alloc (.cells zs9.toArray 105)) ((Chg.trans (Chg.drew (Chg.refl _ _)) g6).alloc _)); (have hk6 := HK.out (w6.alloc (.cells #[.int .i64 (ob y).C, .int .i64 (ob y).A, .int .i64 (ob y).F, .bool (ob y).m, .bool (ob y).f, .bool (ob y).d, .int .i64 (ob y).l, .slice ra (ob y).rs.length rc, .slice da (ob y).ds.length dc] 105)) ((Chg.trans (Chg.drew (Chg.refl _ _)) g6).alloc _)); (obtain ⟨f0, f1, f2, f3, f4, f5, f6, f7, f8⟩ := fr9 (Blk.new w6 105 zs9)); (obtain ⟨z0, z1, z2, z3, z4, z5, z6, z7, z8⟩ := ce9 (Blk.new w6 105 zs9))) | (go_at_call 51; with_reducible refine (HAY.out _ (Chg.drew ((Chg.refl _ _).alloc _))).mono ?_; rintro e w6 ⟨vr, vd, rfl, hvr, hvd, g6⟩; (obtain ⟨ra, rc, rfl⟩ := own_len hvr); (obtain ⟨da, dc, rfl⟩ := own_len hvd); have hz9 := ((Blk.new wr 105 zs9).drew).chg g6 id; (have hk4 := HK.out w6 (Chg.trans (Chg.drew ((Chg.refl _ _).alloc _)) g6)); (have hk5 := hk4); (have hk6 := HK.out _ (new9 (g := wr.heap.size) (Nat.le_refl _) (Chg.trans (Chg.drew ((Chg.refl _ _).alloc _)) g6) (.int .i64 (ob y).C) (.int .i64 (ob y).A) (.int .i64 (ob y).F) (.bool (ob y).m) (.bool (ob y).f) (.bool (ob y).d) (.int .i64 (ob y).l) (.slice ra (ob y).rs.length rc) (.slice da (ob y).ds.length dc))); (obtain ⟨f0, f1, f2, f3, f4, f5, f6, f7, f8⟩ := fr9 hz9); (obtain ⟨z0, z1, z2, z3, z4, z5, z6, z7, z8⟩ := ce9 hz9)))
          · have hob := Blk.new w6 105 [.int .i64 (ob y).C, .int .i64 (ob y).A, .int .i64 (ob y).F, .bool (ob y).m, .bool (ob y).f, .bool (ob y).d, .int .i64 (ob y).l, .slice ra (ob y).rs.length rc, .slice da (ob y).ds.length dc]
            have hg8 := (Chg.trans (Chg.drew (Chg.refl _ _)) g6).alloc (.cells #[.int .i64 (ob y).C, .int .i64 (ob y).A, .int .i64 (ob y).F, .bool (ob y).m, .bool (ob y).f, .bool (ob y).d, .int .i64 (ob y).l, .slice ra (ob y).rs.length rc, .slice da (ob y).ds.length dc] 105)
            have hvr8 := (hvr.grow (Grow.box w6 (.cells #[.int .i64 (ob y).C, .int .i64 (ob y).A, .int .i64 (ob y).F, .bool (ob y).m, .bool (ob y).f, .bool (ob y).d, .int .i64 (ob y).l, .slice ra (ob y).rs.length rc, .slice da (ob y).ds.length dc] 105))).lower (b' := wr.heap.size) (Nat.le_refl _)
            have HAP := hide (show ∀ j, (Value.slice (some ad) OUT.length vc).ownBlock = some j → (Value.slice ra (ob y).rs.length rc).ownBlock ≠ some j from fun j e1 e2 => by
              have h1 := (HO.out.lt j e1).2
              have h2 := (hvr8.lt j e2).1
              omega)
            replace hvr8 := hvr8.lower (b' := w3.heap.size) HG.out.size
            clear hk0 hk1 hk2 hk3 hk4 hk5 hk6 f0 f1 f2 f3 f4 f5 f6 f7 f8 z0 z1 z2 z3 z4 z5 z6 z7 z8 hvd hvr g6 HK HAY
            generalize w6.alloc (.cells #[.int .i64 (ob y).C, .int .i64 (ob y).A, .int .i64 (ob y).F, .bool (ob y).m, .bool (ob y).f, .bool (ob y).d, .int .i64 (ob y).l, .slice ra (ob y).rs.length rc, .slice da (ob y).ds.length dc] 105) = w8 at *
            generalize w6.heap.size = p at *
            have HOBJ := hide hob
            have HVR := hide hvr8
            have HG8 := hide (HG.out.trans hg8)
            have HO8 := hide (HO.out.grow hg8)
            clear hg8 hvr8 HCX HSS
            have q7 : w8.cell? ⟨p, 7, none⟩ = some (Value.slice ra (ob y).rs.length rc) := hob.cell 7
            clear hob
            obtain ⟨R, hR⟩ : ∃ R, (ob y).rs.length = R := ⟨_, rfl⟩
            have HR := hide hR
            have hR100 : R ≤ 100 := by rw [← hR]; exact HRL.out y HYL.out
            rw [hR]
            rw [hR] at q7
            clear hR
            go_wp2_with fail
            clear q7
            go_loopw [5, 52] (fun u v w9 => ∃ k : Nat, k ≤ R ∧ v = .int .i64 k ∧ OL w9 w3.heap.size u (adds OUT ((ob y).rs.take k)) ∧ Blk w9 p 105 [.int .i64 (ob y).C, .int .i64 (ob y).A, .int .i64 (ob y).F, .bool (ob y).m, .bool (ob y).f, .bool (ob y).d, .int .i64 (ob y).l, .slice ra (ob y).rs.length rc, .slice da (ob y).ds.length dc] ∧ OL w9 w3.heap.size (.slice ra (ob y).rs.length rc) (ob y).rs ∧ (∀ j, u.ownBlock = some j → (Value.slice ra (ob y).rs.length rc).ownBlock ≠ some j) ∧ Grow w3 w9) (fun _ v _ => R - (intOf v).toNat)
            case atStart => exact ⟨0, Nat.zero_le _, rfl, HO8.out, HOBJ.out, HVR.out, HAP.out, HG8.out⟩
            case round =>
              obtain ⟨j, hj, rfl, ho9, hob9, hvr9, hap9, gg9⟩ := hrel
              rcases Nat.eq_or_lt_of_le hj with hje | hjlt
              · subst hje
                have q1 : decide ((j : Int) < j) = false := by simp
                rw [List.take_of_length_le (by rw [HR.out]; exact Nat.le_refl _)] at ho9
                have HO9 := hide ho9
                have HG9 := hide gg9
                clear ho9 gg9 hj hob9 hvr9 hap9
                go_wp2
                go_roundw
                case rel => exact ⟨i + 1, adds OUT (ob y).rs, rfl, HO9.out, HBF.out, adds_D _ HSUB.out.1 (fun r hr h0 => (HCL.out y HYL.out r hr).resolve_left h0), adds_nodup _ HSUB.out.2, HG9.out⟩
                case measure => have := HOL.out; have := HLT.out; simp [intOf]; omega
              · have q1 : decide ((j : Int) < R) = true := decide_eq_true (by omega)
                have q2 : j < R := hjlt
                have hkl : j < (ob y).rs.length := by rw [HR.out]; exact hjlt
                have hw : IntKind.i64.wrap ((j : Int) + 1) = ((j + 1 : Nat) : Int) := (IntWalk.i64_in _ (by omega)).trans (by omega)
                have hrd8 := own_rd hvr9
                obtain ⟨ad2, hva2, hcx⟩ := hrd8.at_ hkl
                have q7 : wr.cell? ⟨p, 7, none⟩ = some (Value.slice ra (ob y).rs.length rc) := hob9.cell 7
                rw [HR.out] at q7
                have htk : adds OUT ((ob y).rs.take (j + 1)) = addN (adds OUT ((ob y).rs.take j)) ((ob y).rs.getD j 0) := adds_take hkl
                have hle : (adds OUT ((ob y).rs.take j)).length ≤ OUT.length + j := Nat.le_trans (adds_le' _ _) (by simp; omega)
                obtain ⟨x, hx⟩ : ∃ x, (ob y).rs.getD j 0 = x := ⟨_, rfl⟩
                obtain ⟨OU2, hO⟩ : ∃ OU2, adds OUT ((ob y).rs.take j) = OU2 := ⟨_, rfl⟩
                rw [hx] at hcx htk
                rw [hO] at htk hle ho9
                obtain ⟨va2, vc2, hv⟩ := own_len ho9
                subst hv hva2
                have HOR := hide (own_rd ho9)
                have HOB := hide (show OU2.length < 1000000 by have := HOL.out; omega)
                have HOO := hide ho9
                have HTK := hide htk
                have HGG := hide gg9
                have HX9 := hide (And.intro hob9 (And.intro hvr9 hap9))
                clear ho9 gg9 htk hle hkl hx hO hj hrd8 hob9 hvr9 hap9
                by_cases hx0 : x = 0
                · subst hx0
                  have HAD := hide (show addN OU2 0 = OU2 by unfold addN; rw [if_neg (fun h => h.1 rfl)])
                  go_wp2
                  go_roundw
                  case rel => exact ⟨j + 1, q2, rfl, by rw [HTK.out, HAD.out]; exact HOO.out, HX9.out.1, HX9.out.2.1, HX9.out.2.2, HGG.out⟩
                  case measure => simp [intOf]; omega
                · have q3 : (x != 0) = true := by simpa using hx0
                  have q7b := q7
                  go_wp2_with fail
                  refine (rplace_any HOR.out HOB.out).mono ?_
                  rintro e w6 ⟨rfl, rfl⟩
                  by_cases hp : place OU2 x < 0
                  · have q4 : decide (place OU2 x < 0) = true := decide_eq_true hp
                    have HAD := hide (show addN OU2 x = OU2 ++ [x] by unfold addN; rw [if_pos ⟨hx0, place_neg.1 hp⟩])
                    have gl := Grow.box wr (.cells (ints [x]).toArray 3)
                    obtain ⟨v', W', hrr, ho', hgb, hob'⟩ := app_int (c := 1) (HOO.out.grow gl) (by have h1 := HGG.out.size; have h2 := gl.size; omega) (own_rd (OL.lit wr [x] (by simp))) (by have := HOB.out; simp; omega)
                    have HRR := hide hrr
                    have hgr := Chg.grownOwn (HGG.out.trans gl) (HOO.out.grow gl) (Nat.le_refl _) hgb
                    have hblk := (HX9.out.1.chg gl id).grownOwn hgb (fun e => OL.ne HOO.out HX9.out.1 (by decide) e.symm)
                    have hrs := (HX9.out.2.1.grow gl).chg (Chg.grown (S := fun i => (Value.slice va2 OU2.length vc2).ownBlock = some i) (Chg.refl _ _) hgb (fun k _ e => e)) (fun k e1 e2 => HX9.out.2.2 k e2 e1)
                    have hap' : ∀ j, v'.ownBlock = some j → (Value.slice (some ad2) (ob y).rs.length rc).ownBlock ≠ some j := fun j e1 e2 => by
                      rcases hob' with h | h
                      · exact HX9.out.2.2 j (by rw [← h, e1]) e2
                      · rw [h] at e1
                        injection e1 with e1
                        have h1 := (HX9.out.2.1.lt j e2).2
                        have h2 := gl.size
                        omega
                    have HFF := hide (And.intro ho' (And.intro hblk (And.intro hrs (And.intro hap' hgr))))
                    generalize place OU2 x = P at *
                    clear hrr ho' hgb hob' gl hp hgr hblk hrs hap'
                    have q7c : (wr.alloc (.cells (ints [x]).toArray 3)).cell? ⟨p, 7, none⟩ = some (.slice (some ad2) R rc) := (Grow.box wr _).cell q7b
                    go_wp2_with (at_builtin; refine wpList_app rfl _ _ 37 rfl (.slice va2 OU2.length vc2) (.slice (some ⟨wr.heap.size, 0, none⟩) 1 1) v' _ W' rfl rfl HRR.out ?_)
                    go_roundw
                    case rel => exact ⟨j + 1, q2, rfl, by rw [HTK.out, HAD.out]; exact HFF.out.1, HFF.out.2.1, HFF.out.2.2.1, HFF.out.2.2.2.1, HFF.out.2.2.2.2⟩
                    case measure => simp [intOf]; omega
                  · have q4 : decide (place OU2 x < 0) = false := decide_eq_false hp
                    have HAD := hide (show addN OU2 x = OU2 by unfold addN; rw [if_neg (fun h => hp (place_neg.2 h.2))])
                    generalize place OU2 x = P at *
                    clear hp
                    go_wp2
                    go_roundw
                    case rel => exact ⟨j + 1, q2, rfl, by rw [HTK.out, HAD.out]; exact HOO.out, HX9.out.1, HX9.out.2.1, HX9.out.2.2, HGG.out⟩
                    case measure => simp [intOf]; omega
          · have hob := put9 hz9 (.int .i64 (ob y).C) (.int .i64 (ob y).A) (.int .i64 (ob y).F) (.bool (ob y).m) (.bool (ob y).f) (.bool (ob y).d) (.int .i64 (ob y).l) (.slice ra (ob y).rs.length rc) (.slice da (ob y).ds.length dc)
            have hg8 := new9 (g := wr.heap.size) (Nat.le_refl _) (Chg.trans (Chg.drew ((Chg.refl _ _).alloc _)) g6) (.int .i64 (ob y).C) (.int .i64 (ob y).A) (.int .i64 (ob y).F) (.bool (ob y).m) (.bool (ob y).f) (.bool (ob y).d) (.int .i64 (ob y).l) (.slice ra (ob y).rs.length rc) (.slice da (ob y).ds.length dc)
            have hvr8 := (hvr.chg (chg9 (g := wr.heap.size) (Chg.refl _ w6) (.int .i64 (ob y).C) (.int .i64 (ob y).A) (.int .i64 (ob y).F) (.bool (ob y).m) (.bool (ob y).f) (.bool (ob y).d) (.int .i64 (ob y).l) (.slice ra (ob y).rs.length rc) (.slice da (ob y).ds.length dc)) (fun j e h => by
              have h1 := (hvr.lt j e).1
              have h2 : ∀ o, (wr.alloc o).drew.heap.size = wr.heap.size + 1 := fun o => by simp [World.drew]
              rw [h2] at h1
              omega)).lower (b' := wr.heap.size) (by simp [World.drew])
            have HAP := hide (show ∀ j, (Value.slice (some ad) OUT.length vc).ownBlock = some j → (Value.slice ra (ob y).rs.length rc).ownBlock ≠ some j from fun j e1 e2 => by
              have h1 := (HO.out.lt j e1).2
              have h2 := (hvr8.lt j e2).1
              omega)
            replace hvr8 := hvr8.lower (b' := w3.heap.size) HG.out.size
            clear hk0 hk1 hk2 hk3 hk4 hk5 hk6 f0 f1 f2 f3 f4 f5 f6 f7 f8 z0 z1 z2 z3 z4 z5 z6 z7 z8 hvd hvr g6 hz9 HK HAY
            generalize (((((((((w6.setCell ⟨wr.heap.size, 0, none⟩ (.int .i64 (ob y).C)).setCell ⟨wr.heap.size, 1, none⟩ (.int .i64 (ob y).A)).setCell ⟨wr.heap.size, 2, none⟩ (.int .i64 (ob y).F)).setCell ⟨wr.heap.size, 3, none⟩ (.bool (ob y).m)).setCell ⟨wr.heap.size, 4, none⟩ (.bool (ob y).f)).setCell ⟨wr.heap.size, 5, none⟩ (.bool (ob y).d)).setCell ⟨wr.heap.size, 6, none⟩ (.int .i64 (ob y).l)).setCell ⟨wr.heap.size, 7, none⟩ (.slice ra (ob y).rs.length rc)).setCell ⟨wr.heap.size, 8, none⟩ (.slice da (ob y).ds.length dc)) = w8 at *
            generalize hpp : wr.heap.size = p at *
            clear hpp
            have HOBJ := hide hob
            have HVR := hide hvr8
            have HG8 := hide (HG.out.trans hg8)
            have HO8 := hide (HO.out.grow hg8)
            clear hg8 hvr8 HCX HSS
            have q7 : w8.cell? ⟨p, 7, none⟩ = some (Value.slice ra (ob y).rs.length rc) := hob.cell 7
            clear hob
            obtain ⟨R, hR⟩ : ∃ R, (ob y).rs.length = R := ⟨_, rfl⟩
            have HR := hide hR
            have hR100 : R ≤ 100 := by rw [← hR]; exact HRL.out y HYL.out
            rw [hR]
            rw [hR] at q7
            clear hR
            go_wp2_with fail
            clear q7
            go_loopw [5, 52] (fun u v w9 => ∃ k : Nat, k ≤ R ∧ v = .int .i64 k ∧ OL w9 w3.heap.size u (adds OUT ((ob y).rs.take k)) ∧ Blk w9 p 105 [.int .i64 (ob y).C, .int .i64 (ob y).A, .int .i64 (ob y).F, .bool (ob y).m, .bool (ob y).f, .bool (ob y).d, .int .i64 (ob y).l, .slice ra (ob y).rs.length rc, .slice da (ob y).ds.length dc] ∧ OL w9 w3.heap.size (.slice ra (ob y).rs.length rc) (ob y).rs ∧ (∀ j, u.ownBlock = some j → (Value.slice ra (ob y).rs.length rc).ownBlock ≠ some j) ∧ Grow w3 w9) (fun _ v _ => R - (intOf v).toNat)
            case atStart => exact ⟨0, Nat.zero_le _, rfl, HO8.out, HOBJ.out, HVR.out, HAP.out, HG8.out⟩
            case round =>
              obtain ⟨j, hj, rfl, ho9, hob9, hvr9, hap9, gg9⟩ := hrel
              rcases Nat.eq_or_lt_of_le hj with hje | hjlt
              · subst hje
                have q1 : decide ((j : Int) < j) = false := by simp
                rw [List.take_of_length_le (by rw [HR.out]; exact Nat.le_refl _)] at ho9
                have HO9 := hide ho9
                have HG9 := hide gg9
                clear ho9 gg9 hj hob9 hvr9 hap9
                go_wp2
                go_roundw
                case rel => exact ⟨i + 1, adds OUT (ob y).rs, rfl, HO9.out, HBF.out, adds_D _ HSUB.out.1 (fun r hr h0 => (HCL.out y HYL.out r hr).resolve_left h0), adds_nodup _ HSUB.out.2, HG9.out⟩
                case measure => have := HOL.out; have := HLT.out; simp [intOf]; omega
              · have q1 : decide ((j : Int) < R) = true := decide_eq_true (by omega)
                have q2 : j < R := hjlt
                have hkl : j < (ob y).rs.length := by rw [HR.out]; exact hjlt
                have hw : IntKind.i64.wrap ((j : Int) + 1) = ((j + 1 : Nat) : Int) := (IntWalk.i64_in _ (by omega)).trans (by omega)
                have hrd8 := own_rd hvr9
                obtain ⟨ad2, hva2, hcx⟩ := hrd8.at_ hkl
                have q7 : wr.cell? ⟨p, 7, none⟩ = some (Value.slice ra (ob y).rs.length rc) := hob9.cell 7
                rw [HR.out] at q7
                have htk : adds OUT ((ob y).rs.take (j + 1)) = addN (adds OUT ((ob y).rs.take j)) ((ob y).rs.getD j 0) := adds_take hkl
                have hle : (adds OUT ((ob y).rs.take j)).length ≤ OUT.length + j := Nat.le_trans (adds_le' _ _) (by simp; omega)
                obtain ⟨x, hx⟩ : ∃ x, (ob y).rs.getD j 0 = x := ⟨_, rfl⟩
                obtain ⟨OU2, hO⟩ : ∃ OU2, adds OUT ((ob y).rs.take j) = OU2 := ⟨_, rfl⟩
                rw [hx] at hcx htk
                rw [hO] at htk hle ho9
                obtain ⟨va2, vc2, hv⟩ := own_len ho9
                subst hv hva2
                have HOR := hide (own_rd ho9)
                have HOB := hide (show OU2.length < 1000000 by have := HOL.out; omega)
                have HOO := hide ho9
                have HTK := hide htk
                have HGG := hide gg9
                have HX9 := hide (And.intro hob9 (And.intro hvr9 hap9))
                clear ho9 gg9 htk hle hkl hx hO hj hrd8 hob9 hvr9 hap9
                by_cases hx0 : x = 0
                · subst hx0
                  have HAD := hide (show addN OU2 0 = OU2 by unfold addN; rw [if_neg (fun h => h.1 rfl)])
                  go_wp2
                  go_roundw
                  case rel => exact ⟨j + 1, q2, rfl, by rw [HTK.out, HAD.out]; exact HOO.out, HX9.out.1, HX9.out.2.1, HX9.out.2.2, HGG.out⟩
                  case measure => simp [intOf]; omega
                · have q3 : (x != 0) = true := by simpa using hx0
                  have q7b := q7
                  go_wp2_with fail
                  refine (rplace_any HOR.out HOB.out).mono ?_
                  rintro e w6 ⟨rfl, rfl⟩
                  by_cases hp : place OU2 x < 0
                  · have q4 : decide (place OU2 x < 0) = true := decide_eq_true hp
                    have HAD := hide (show addN OU2 x = OU2 ++ [x] by unfold addN; rw [if_pos ⟨hx0, place_neg.1 hp⟩])
                    have gl := Grow.box wr (.cells (ints [x]).toArray 3)
                    obtain ⟨v', W', hrr, ho', hgb, hob'⟩ := app_int (c := 1) (HOO.out.grow gl) (by have h1 := HGG.out.size; have h2 := gl.size; omega) (own_rd (OL.lit wr [x] (by simp))) (by have := HOB.out; simp; omega)
                    have HRR := hide hrr
                    have hgr := Chg.grownOwn (HGG.out.trans gl) (HOO.out.grow gl) (Nat.le_refl _) hgb
                    have hblk := (HX9.out.1.chg gl id).grownOwn hgb (fun e => OL.ne HOO.out HX9.out.1 (by decide) e.symm)
                    have hrs := (HX9.out.2.1.grow gl).chg (Chg.grown (S := fun i => (Value.slice va2 OU2.length vc2).ownBlock = some i) (Chg.refl _ _) hgb (fun k _ e => e)) (fun k e1 e2 => HX9.out.2.2 k e2 e1)
                    have hap' : ∀ j, v'.ownBlock = some j → (Value.slice (some ad2) (ob y).rs.length rc).ownBlock ≠ some j := fun j e1 e2 => by
                      rcases hob' with h | h
                      · exact HX9.out.2.2 j (by rw [← h, e1]) e2
                      · rw [h] at e1
                        injection e1 with e1
                        have h1 := (HX9.out.2.1.lt j e2).2
                        have h2 := gl.size
                        omega
                    have HFF := hide (And.intro ho' (And.intro hblk (And.intro hrs (And.intro hap' hgr))))
                    generalize place OU2 x = P at *
                    clear hrr ho' hgb hob' gl hp hgr hblk hrs hap'
                    have q7c : (wr.alloc (.cells (ints [x]).toArray 3)).cell? ⟨p, 7, none⟩ = some (.slice (some ad2) R rc) := (Grow.box wr _).cell q7b
                    go_wp2_with (at_builtin; refine wpList_app rfl _ _ 37 rfl (.slice va2 OU2.length vc2) (.slice (some ⟨wr.heap.size, 0, none⟩) 1 1) v' _ W' rfl rfl HRR.out ?_)
                    go_roundw
                    case rel => exact ⟨j + 1, q2, rfl, by rw [HTK.out, HAD.out]; exact HFF.out.1, HFF.out.2.1, HFF.out.2.2.1, HFF.out.2.2.2.1, HFF.out.2.2.2.2⟩
                    case measure => simp [intOf]; omega
                  · have q4 : decide (place OU2 x < 0) = false := decide_eq_false hp
                    have HAD := hide (show addN OU2 x = OU2 by unfold addN; rw [if_neg (fun h => hp (place_neg.2 h.2))])
                    generalize place OU2 x = P at *
                    clear hp
                    go_wp2
                    go_roundw
                    case rel => exact ⟨j + 1, q2, rfl, by rw [HTK.out, HAD.out]; exact HOO.out, HX9.out.1, HX9.out.2.1, HX9.out.2.2, HGG.out⟩
                    case measure => simp [intOf]; omega
    · have q1 : decide ((k : Int) < fn) = true := decide_eq_true (by omega)
      have q2 : k < fn := hlt
      have hkl : k < fr.length := by rw [HF.out.1]; exact hlt
      have hw : IntKind.i64.wrap ((k : Int) + 1) = ((k + 1 : Nat) : Int) := (IntWalk.i64_in _ (by have := HFN.out; omega)).trans (by omega)
      obtain ⟨ad, hva, hcx⟩ := (HF.out.grow (HC3.out.trans gg)).at_ hlt
      have htk : adds [] (fr.take (k + 1)) = addN (adds [] (fr.take k)) (fr.getD k 0) := adds_take hkl
      have hle : (adds [] (fr.take k)).length ≤ k := adds_le k
      obtain ⟨x, hx⟩ : ∃ x, fr.getD k 0 = x := ⟨_, rfl⟩
      obtain ⟨OUT, hO⟩ : ∃ OUT, adds [] (fr.take k) = OUT := ⟨_, rfl⟩
      rw [hx] at hcx htk
      rw [hO] at htk hle ho
      obtain ⟨va, vc, hv⟩ := own_len ho
      subst hv hva
      have HOR := hide (own_rd ho)
      have HOB := hide (show OUT.length < 1000000 by have := HFN.out; omega)
      have HOO := hide ho
      have HTK := hide htk
      have HG := hide gg
      clear ho gg htk hle hkl hx hO hk
      by_cases hx0 : x = 0
      · subst hx0
        have HAD := hide (show addN OUT 0 = OUT by unfold addN; rw [if_neg (fun h => h.1 rfl)])
        go_wp2
        go_roundw
        case rel => exact ⟨k + 1, q2, rfl, by rw [HTK.out, HAD.out]; exact HOO.out, HG.out⟩
        case measure => simp [intOf]; omega
      · have q3 : (x != 0) = true := by simpa using hx0
        go_wp2_with fail
        refine (rplace_any HOR.out HOB.out).mono ?_
        rintro e w6 ⟨rfl, rfl⟩
        by_cases hp : place OUT x < 0
        · have q4 : decide (place OUT x < 0) = true := decide_eq_true hp
          have HAD := hide (show addN OUT x = OUT ++ [x] by unfold addN; rw [if_pos ⟨hx0, place_neg.1 hp⟩])
          have gl := Grow.box wr (.cells (ints [x]).toArray 3)
          obtain ⟨v', W', hrr, ho', cg, -⟩ := app_more (c0 := 1) (HG.out.trans gl) (HOO.out.grow gl) (own_rd (OL.lit wr [x] (by simp))) (by have := HOB.out; simp; omega)
          have HRR := hide hrr
          have HFF := hide (And.intro ho' cg)
          generalize place OUT x = P at *
          clear hrr ho' cg gl hp
          go_wp2_with (at_builtin; refine wpList_app rfl _ _ 37 rfl (.slice va OUT.length vc) (.slice (some ⟨World.heap wr |>.size, 0, none⟩) 1 1) v' _ W' rfl rfl HRR.out ?_)
          (go_roundw; (case rel => exact ⟨k + 1, q2, rfl, by rw [HTK.out, HAD.out]; exact HFF.out.1, HFF.out.2⟩); (case measure => simp [intOf]; omega))
        · have q4 : decide (place OUT x < 0) = false := decide_eq_false hp
          have HAD := hide (show addN OUT x = OUT by unfold addN; rw [if_neg (fun h => hp (place_neg.2 h.2))])
          generalize place OUT x = P at *
          clear hp
          go_wp2
          (go_roundw; (case rel => exact ⟨k + 1, q2, rfl, by rw [HTK.out, HAD.out]; exact HOO.out, HG.out⟩); (case measure => simp [intOf]; omega))
end
end Go.Proofs.YtogfjclmohpjkaaGreatDoor.L15
