/- What the plain Canon answers. Conditions: what At answers of the objects that are reached. -/
import Derived.Test.YtogfjclmohpjkaaGreatDoorL15Bc
namespace Go.Proofs.YtogfjclmohpjkaaGreatDoor.L15
open Go.ChangeShapes Go.WideShapes Go.ChangeAt Go.RowKit
open Go.Proofs.YtogfjclmohpjkaaGreatDoor.L1 (Sl Ar RAr ptr exB)
open Go.Proofs.YtogfjclmohpjkaaGreatDoor.L5 (Cl clV rtB Tb clAt shX shR shD IsCls)
set_option linter.unusedVariables false
set_option maxRecDepth 100000
section
variable {w w' W : World} {q z cl cp fn fc : Nat} {ca fa : Option Addr} {fr res L : List Int} {ob : Int → Ob}
set_option maxHeartbeats 40000000 in
theorem canon_any (hA : Ats w (rsV q ca cl cp) ob L) (hf : L1.Rd w fa fn fr) (hfn : fn < 100000) (hfr : ∀ x ∈ fr, x = 0 ∨ x ∈ L) (hc : ∀ x ∈ L, ∀ r ∈ (ob x).rs, r = 0 ∨ r ∈ L) (hr : ∀ x ∈ L, (ob x).rs.length ≤ 100 ∧ (ob x).ds.length ≤ 100) (hn : L.length ≤ 10000) (hres : Rch ob fr res) :
    Calls Tryz.prog 16 #[rsV q ca cl cp, .slice fa fn fc] w fun e w' => ∃ v, e = .returned v ∧ OL w' w.heap.size v (canL ob fr res) ∧ Grow w w' := by
  have hsub : ∀ x ∈ res, x ∈ L := reach_D (D := fun x => x ∈ L) hc hres hfr
  have hnd : res.Nodup := hres.nodup (adds_nodup _ List.nodup_nil)
  have hrl : res.length ≤ 10000 := Nat.le_trans (nodup_len hnd hsub) hn
  have HRE := hide (fun W (c : Grow w W) => reach_any (fc := fc) (fun W2 c2 => hA W2 (c.trans c2)) (hf.grow c) hfn hfr hc (fun x hx => (hr x hx).1) (Nat.le_trans hn (by omega)) hres)
  have HA := hide hA
  have HF := hide hf
  have HFN := hide hfn
  have HSUB := hide hsub
  have HRL := hide hrl
  have HLN := hide (fun x hx => hr x (hsub x hx))
  clear hA hf hfn hfr hc hn hr hres hsub hnd hrl
  obtain ⟨hs, cc, fs⟩ := boxes1 w 57 [ptr q, .slice ca cl cp]
  go_enter Tryz.func16, Tryz.ntmps16
  obtain ⟨s0, s1⟩ := hs.cell2
  go_wp2_with fail
  clear s0 s1
  generalize w.alloc (.cells #[ptr q, .slice ca cl cp] 57) = w3 at *
  generalize hsb : w.heap.size = sb at *
  refine (HRE.out _ cc).mono ?_
  rintro e w4 ⟨v5, rfl, hol, c4⟩
  obtain ⟨aa, ac, hv⟩ := own_len hol
  subst hv
  obtain ⟨N, hN⟩ : ∃ N, res.length = N := ⟨_, rfl⟩
  have HALL := hide (show L1.Rd w4 aa N res from by have := own_rd hol; rwa [hN] at this)
  have HRN := hide hN
  rw [hN]
  have HS := hide (hs.chg c4 id)
  have HC4 := hide (cc.trans c4)
  have hwz : w.heap.size ≤ w4.heap.size := HC4.out.size
  clear hs cc c4 hol hN
  go_wp2_with fail
  go_loopw [6, 17] (fun u v wr => ∃ k : Nat, k ≤ fn ∧ v = .int .i64 k ∧ OL wr w4.heap.size u ((fr.take k).map (place res)) ∧ Grow w4 wr) (fun _ v _ => fn - (intOf v).toNat)
  case atStart => exact ⟨0, Nat.zero_le _, rfl, ol_nil _ _, Chg.refl _ _⟩
  case round =>
    obtain ⟨k, hk, rfl, ho, gg⟩ := hrel
    rcases Nat.eq_or_lt_of_le hk with hke | hlt
    · subst hke
      have q1 : decide ((k : Int) < k) = false := by simp
      rw [List.take_of_length_le (by rw [HF.out.1]; exact Nat.le_refl _)] at ho
      have HO := hide ho
      have HG := hide gg
      clear ho gg hk
      go_wp2_with fail
      go_loopw [6, 32] (fun u v wr => ∃ (k : Nat) (OUT : List Int), k ≤ N ∧ v = .int .i64 k ∧ OUT = fr.map (place res) ++ (res.take k).flatMap (fun a => tell (place res) (ob a)) ∧ OUT.length ≤ 100000 + k * 300 ∧ OL wr w4.heap.size u OUT ∧ Grow w4 wr) (fun _ v _ => N - (intOf v).toNat)
      case atStart => exact ⟨0, fr.map (place res), Nat.zero_le _, rfl, by simp, by have := HFN.out; have := HF.out.1; simp; omega, HO.out, HG.out⟩
      case round =>
        clear HO HG
        obtain ⟨k, OUT, hk, rfl, hout, hlen, ho, gg⟩ := hrel
        rcases Nat.eq_or_lt_of_le hk with hke | hlt
        · subst hke
          have q1 : decide ((k : Int) < k) = false := by simp
          rw [List.take_of_length_le (by rw [HRN.out]; exact Nat.le_refl _)] at hout
          have HE := hide (show OL wr w.heap.size _ (canL ob fr res) from hout ▸ ho.lower hwz)
          have HG := hide (HC4.out.trans gg)
          clear ho gg hout hlen hk
          go_wp2
          go_ret
          exact ⟨_, rfl, HE.out, HG.out⟩
        · have q1 : decide ((k : Int) < N) = true := decide_eq_true (by omega)
          have q2 : k < N := hlt
          have hkl : k < res.length := by rw [HRN.out]; exact hlt
          have hyr : res.getD k 0 ∈ res := getD_mem hkl
          have htk : (res.take (k + 1)).flatMap (fun a => tell (place res) (ob a)) = (res.take k).flatMap (fun a => tell (place res) (ob a)) ++ tell (place res) (ob (res.getD k 0)) := by
            rw [List.take_add_one, List.getElem?_eq_getElem hkl, List.flatMap_append]
            simp [List.getD_eq_getElem?_getD, hkl]
          have hw : IntKind.i64.wrap ((k : Int) + 1) = ((k + 1 : Nat) : Int) := (IntWalk.i64_in _ (by have := HRL.out; have := HRN.out; omega)).trans (by omega)
          obtain ⟨ad, hva, hcx⟩ := (HALL.out.grow gg).at_ hlt
          obtain ⟨y, hy⟩ : ∃ y, res.getD k 0 = y := ⟨_, rfl⟩
          rw [hy] at hcx hyr htk
          have HYR := hide hyr
          have HTK := hide htk
          have HOUT := hide (And.intro hout hlen)
          have HAY := hide (fun W (c : Grow wr W) => HA.out W ((HC4.out.trans gg).trans c) y (HSUB.out y hyr))
          obtain ⟨va, vc, hv⟩ := own_len ho
          subst hv
          obtain ⟨LN, hLN⟩ : ∃ LN, OUT.length = LN := ⟨_, rfl⟩
          have HLEN := hide hLN
          have HO := hide (show OL wr w4.heap.size (.slice va LN vc) OUT from hLN ▸ ho)
          have HG := hide gg
          have hs := HS.out.chg gg id
          rw [hLN]
          subst hva
          clear ho gg hout hlen hyr htk hy hLN hkl hk
          go_wp2_with fail
          have HSS := hide hs
          have HCX := hide hcx
          have HK := hide (fun W (c : Grow wr W) => show W.cell? ⟨sb, 0, none⟩ = some (ptr q) ∧ W.cell? ⟨sb, 1, none⟩ = some (.slice ca cl cp) ∧ W.cell? (ad.add k) = some (.int .i64 y) from ⟨(HSS.out.chg c id).cell 0, (HSS.out.chg c id).cell 1, c.cell HCX.out⟩)
          have hk0 := HK.out wr (Chg.refl _ _)
          clear hs hcx
          have hk1 := HK.out wr.drew (Chg.drew (Chg.refl _ _))
          have hk2 := HK.out (wr.alloc (.cells zs9.toArray 105)).drew (Chg.drew ((Chg.refl _ _).alloc _))
          have hk3 := HK.out (wr.drew.alloc (.cells zs9.toArray 105)) ((Chg.drew (Chg.refl _ _)).alloc _)
          go_region_held3 (fun W => W.cell? ⟨sb, 0, none⟩ = some (ptr q) ∧ W.cell? ⟨sb, 1, none⟩ = some (.slice ca cl cp) ∧ W.cell? (ad.add k) = some (.int .i64 y))
            (first | with_reducible exact hk0 | with_reducible exact hk1 | with_reducible exact hk2 | with_reducible exact hk3 | with_reducible exact hk4 | with_reducible exact hk5 | with_reducible exact hk6)
            (first | (go_at_call 51; with_reducible refine (HAY.out _ (Chg.drew (Chg.refl _ _))).mono ?_; rintro e w6 ⟨vr, vd, rfl, hvr, hvd, g6⟩; (obtain ⟨ra, rc, rfl⟩ := own_len hvr); (obtain ⟨da, dc, rfl⟩ := own_len hvd); (have hk4 := HK.out w6 (Chg.trans (Chg.drew (Chg.refl _ _)) g6)); (have hk5 := HK.out (w6.alloc (.cells zs9.toArray 105)) ((Chg.trans (Chg.drew (Chg.refl _ _)) g6).alloc _)); (have hk6 := HK.out (w6.alloc (.cells #[.int .i64 (ob y).C, .int .i64 (ob y).A, .int .i64 (ob y).F, .bool (ob y).m, .bool (ob y).f, .bool (ob y).d, .int .i64 (ob y).l, .slice ra (ob y).rs.length rc, .slice da (ob y).ds.length dc] 105)) ((Chg.trans (Chg.drew (Chg.refl _ _)) g6).alloc _)); (obtain ⟨f0, f1, f2, f3, f4, f5, f6, f7, f8⟩ := fr9 (Blk.new w6 105 zs9)); (obtain ⟨z0, z1, z2, z3, z4, z5, z6, z7, z8⟩ := ce9 (Blk.new w6 105 zs9))) | (go_at_call 51; with_reducible refine (HAY.out _ (Chg.drew ((Chg.refl _ _).alloc _))).mono ?_; rintro e w6 ⟨vr, vd, rfl, hvr, hvd, g6⟩; (obtain ⟨ra, rc, rfl⟩ := own_len hvr); (obtain ⟨da, dc, rfl⟩ := own_len hvd); have hz9 := ((Blk.new wr 105 zs9).drew).chg g6 id; (have hk4 := HK.out w6 (Chg.trans (Chg.drew ((Chg.refl _ _).alloc _)) g6)); (have hk5 := hk4); (have hk6 := HK.out _ (new9 (g := wr.heap.size) (Nat.le_refl _) (Chg.trans (Chg.drew ((Chg.refl _ _).alloc _)) g6) (.int .i64 (ob y).C) (.int .i64 (ob y).A) (.int .i64 (ob y).F) (.bool (ob y).m) (.bool (ob y).f) (.bool (ob y).d) (.int .i64 (ob y).l) (.slice ra (ob y).rs.length rc) (.slice da (ob y).ds.length dc))); (obtain ⟨f0, f1, f2, f3, f4, f5, f6, f7, f8⟩ := fr9 hz9); (obtain ⟨z0, z1, z2, z3, z4, z5, z6, z7, z8⟩ := ce9 hz9)))
          · have hob := Blk.new w6 105 [.int .i64 (ob y).C, .int .i64 (ob y).A, .int .i64 (ob y).F, .bool (ob y).m, .bool (ob y).f, .bool (ob y).d, .int .i64 (ob y).l, .slice ra (ob y).rs.length rc, .slice da (ob y).ds.length dc]
            have hg8 := (Chg.trans (Chg.drew (Chg.refl _ _)) g6).alloc (.cells #[.int .i64 (ob y).C, .int .i64 (ob y).A, .int .i64 (ob y).F, .bool (ob y).m, .bool (ob y).f, .bool (ob y).d, .int .i64 (ob y).l, .slice ra (ob y).rs.length rc, .slice da (ob y).ds.length dc] 105)
            have hvr8 := (hvr.grow (Grow.box w6 (.cells #[.int .i64 (ob y).C, .int .i64 (ob y).A, .int .i64 (ob y).F, .bool (ob y).m, .bool (ob y).f, .bool (ob y).d, .int .i64 (ob y).l, .slice ra (ob y).rs.length rc, .slice da (ob y).ds.length dc] 105))).lower (b' := wr.heap.size) (Nat.le_refl _)
            have hvd8 := (hvd.grow (Grow.box w6 (.cells #[.int .i64 (ob y).C, .int .i64 (ob y).A, .int .i64 (ob y).F, .bool (ob y).m, .bool (ob y).f, .bool (ob y).d, .int .i64 (ob y).l, .slice ra (ob y).rs.length rc, .slice da (ob y).ds.length dc] 105))).lower (b' := wr.heap.size) (Nat.le_refl _)
            have hrp : ∀ j, (Value.slice va LN vc).ownBlock = some j → (Value.slice ra (ob y).rs.length rc).ownBlock ≠ some j := fun j e1 e2 => by
              have h1 := (HO.out.lt j e1).2
              have h2 := (hvr8.lt j e2).1
              omega
            have hdp : ∀ j, (Value.slice va LN vc).ownBlock = some j → (Value.slice da (ob y).ds.length dc).ownBlock ≠ some j := fun j e1 e2 => by
              have h1 := (HO.out.lt j e1).2
              have h2 := (hvd8.lt j e2).1
              omega
            replace hvr8 := hvr8.lower (b' := w4.heap.size) HG.out.size
            replace hvd8 := hvd8.lower (b' := w4.heap.size) HG.out.size
            clear hk0 hk1 hk2 hk3 hk4 hk5 hk6 f0 f1 f2 f3 f4 f5 f6 f7 f8 z0 z1 z2 z3 z4 z5 z6 z7 z8 hvd hvr g6 HK HAY
            generalize w6.alloc (.cells #[.int .i64 (ob y).C, .int .i64 (ob y).A, .int .i64 (ob y).F, .bool (ob y).m, .bool (ob y).f, .bool (ob y).d, .int .i64 (ob y).l, .slice ra (ob y).rs.length rc, .slice da (ob y).ds.length dc] 105) = w8 at *
            generalize w6.heap.size = p at *
            have hap : Ap w8 w4.heap.size p (.slice va LN vc) (.slice ra (ob y).rs.length rc) (.slice da (ob y).ds.length dc) OUT (ob y) := ⟨HO.out.grow hg8, hob, hvr8, hvd8, hrp, hdp⟩
            have HG8 := hide (HG.out.trans hg8)
            clear hob hg8 hvr8 hvd8 hrp hdp
            obtain ⟨R, hR⟩ : ∃ R, (ob y).rs.length = R := ⟨_, rfl⟩
            obtain ⟨C, hC⟩ : ∃ C, (ob y).C = C := ⟨_, rfl⟩
            obtain ⟨l, hl⟩ : ∃ l, (ob y).l = l := ⟨_, rfl⟩
            obtain ⟨ff, hf⟩ : ∃ ff, (ob y).f = ff := ⟨_, rfl⟩
            obtain ⟨dd, hd⟩ : ∃ dd, (ob y).d = dd := ⟨_, rfl⟩
            have HR := hide hR
            have HBD := hide (HLN.out y HYR.out)
            have HAPP := hide hap
            have q0 : w8.cell? ⟨p, 0, none⟩ = some (.int .i64 C) := hC ▸ hap.bl.cell 0
            have q4 : w8.cell? ⟨p, 4, none⟩ = some (.bool ff) := hf ▸ hap.bl.cell 4
            have q5 : w8.cell? ⟨p, 5, none⟩ = some (.bool dd) := hd ▸ hap.bl.cell 5
            have q6 : w8.cell? ⟨p, 6, none⟩ = some (.int .i64 l) := hl ▸ hap.bl.cell 6
            clear hap
            cases ff with
            | false =>
              cases dd with
              | false =>
                have HTL := hide (show tell (place res) (ob y) = [-2, C, l, 0] ++ ((ob y).rs.map (place res) ++ (ob y).ds) from by unfold tell; rw [hC, hl, hf, hd]; rfl)
                have gl := Grow.box w8 (.cells (ints [-2, C, l, 0]).toArray 3)
                obtain ⟨v1, W1, hrr, hap1, hgr1⟩ := (HAPP.out.grow gl).app (c := 4) (by have h1 := HG8.out.size; have h2 := gl.size; omega) (own_rd (OL.lit w8 [-2, C, l, 0] (by simp))) (by have h1 := HOUT.out.2; have h2 := HRL.out; have h3 := HRN.out; simp; omega)
                have hg1 := hgr1 w4 (HG8.out.trans gl) (Nat.le_refl _)
                have HRR := hide hrr
                have q7 : W1.cell? ⟨p, 7, none⟩ = some (.slice ra R rc) := by
                  have : W1.cell? ⟨p, 7, none⟩ = some (.slice ra (ob y).rs.length rc) := hap1.bl.cell 7
                  rwa [hR] at this
                have HAP1 := hide hap1
                have HG1 := hide hg1
                clear hrr hap1 hg1 hgr1 gl hC hl hf hd hR
                go_wp2_with (at_builtin; refine wpList_app rfl _ _ 37 rfl (.slice va LN vc) (.slice (some ⟨w8.heap.size, 0, none⟩) 4 4) v1 _ W1 rfl rfl HRR.out ?_)
                clear q7 q0 q4 q5 q6
                go_loopw [6, 63] (fun u v w9 => ∃ (j : Nat) (OU2 : List Int), j ≤ R ∧ v = .int .i64 j ∧ OU2 = (OUT ++ [-2, C, l, 0]) ++ ((ob y).rs.take j).map (place res) ∧ Ap w9 w4.heap.size p u (.slice ra (ob y).rs.length rc) (.slice da (ob y).ds.length dc) OU2 (ob y) ∧ Grow w4 w9) (fun _ v _ => R - (intOf v).toNat)
                case atStart => exact ⟨0, _, Nat.zero_le _, rfl, by simp, HAP1.out, HG1.out⟩
                case round =>
                  obtain ⟨j, OU2, hj, rfl, hou, hap9, gg9⟩ := hrel
                  have hlo : OU2.length ≤ OUT.length + 4 + j := by rw [hou]; simp; omega
                  obtain ⟨va9, vc9, hv⟩ := own_len hap9.ol
                  subst hv
                  rcases Nat.eq_or_lt_of_le hj with hje | hjlt
                  · subst hje
                    have q9 : decide ((j : Int) < j) = false := by simp
                    rw [List.take_of_length_le (by rw [HR.out]; exact Nat.le_refl _)] at hou
                    obtain ⟨v2, W2, hrr, hap2, hgr2⟩ := hap9.app (c := dc) gg9.size (own_rd hap9.ds) (by have h1 := HOUT.out.2; have h2 := HRL.out; have h3 := HRN.out; have h4 := HBD.out; have h5 := HR.out; omega)
                    have HRR2 := hide hrr
                    have HFF := hide (show OL W2 w4.heap.size v2 (OU2 ++ (ob y).ds) ∧ Grow w4 W2 from ⟨hap2.ol, hgr2 w4 gg9 (Nat.le_refl _)⟩)
                    have HEQ := hide (show OU2 ++ (ob y).ds = fr.map (place res) ++ (res.take (k + 1)).flatMap (fun a => tell (place res) (ob a)) from by
                      rw [HTK.out, HTL.out, hou, HOUT.out.1]
                      simp only [List.append_assoc])
                    have HLE := hide (show (OU2 ++ (ob y).ds).length ≤ 100000 + (k + 1) * 300 from by
                      have h1 := HOUT.out.2
                      have h4 := HBD.out
                      have h5 := HR.out
                      rw [List.length_append]
                      omega)
                    have q8 : wr.cell? ⟨p, 8, none⟩ = some (.slice da (ob y).ds.length dc) := hap9.bl.cell 8
                    clear hrr hap2 hgr2 hap9 gg9 hou hlo hj
                    go_wp2_with (at_builtin; refine wpList_app rfl _ _ 37 rfl (.slice va9 OU2.length vc9) (.slice da (ob y).ds.length dc) v2 _ W2 rfl rfl HRR2.out ?_)
                    go_roundw
                    case rel => exact ⟨k + 1, _, q2, rfl, HEQ.out, HLE.out, HFF.out.1, HFF.out.2⟩
                    case measure => simp [intOf]; omega
                  · have q9 : decide ((j : Int) < R) = true := decide_eq_true (by omega)
                    have q10 : j < R := hjlt
                    have hjl : j < (ob y).rs.length := by rw [HR.out]; exact hjlt
                    have hwj : IntKind.i64.wrap ((j : Int) + 1) = ((j + 1 : Nat) : Int) := (IntWalk.i64_in _ (by have := HBD.out; have := HR.out; omega)).trans (by omega)
                    obtain ⟨ad2, hva2, hcx⟩ := (own_rd hap9.rs).at_ hjl
                    obtain ⟨x, hx⟩ : ∃ x, (ob y).rs.getD j 0 = x := ⟨_, rfl⟩
                    obtain ⟨P, hP⟩ : ∃ P, place res x = P := ⟨_, rfl⟩
                    have htj : ((ob y).rs.take (j + 1)).map (place res) = ((ob y).rs.take j).map (place res) ++ [P] := by
                      rw [List.take_add_one, List.getElem?_eq_getElem hjl, List.map_append, ← hP, ← hx]
                      simp [List.getD_eq_getElem?_getD, hjl]
                    rw [hx] at hcx
                    have HPL := hide (show Calls Tryz.prog 50 #[.slice (some ad) N ac, .int .i64 x] wr fun e w' => e = .returned (.int .i64 P) ∧ wr = w' from hP ▸ rplace_any (HALL.out.grow gg9) (by have := HRL.out; have := HRN.out; omega))
                    have gl := Grow.box wr (.cells (ints [P]).toArray 3)
                    obtain ⟨v2, W2, hrr, hap2, hgr2⟩ := (hap9.grow gl).app (c := 1) (by have h1 := gg9.size; have h2 := gl.size; omega) (own_rd (OL.lit wr [P] (by simp))) (by have h1 := HOUT.out.2; have h2 := HRL.out; have h3 := HRN.out; have h4 := HBD.out; have h5 := HR.out; simp; omega)
                    have HRR2 := hide hrr
                    have HFF := hide (And.intro hap2 (hgr2 w4 (gg9.trans gl) (Nat.le_refl _)))
                    have HEQ := hide (show OU2 ++ [P] = (OUT ++ [-2, C, l, 0]) ++ ((ob y).rs.take (j + 1)).map (place res) from by
                      rw [htj, hou]
                      simp only [List.append_assoc])
                    have q7 : wr.cell? ⟨p, 7, none⟩ = some (.slice ra R rc) := by
                      have : wr.cell? ⟨p, 7, none⟩ = some (.slice ra (ob y).rs.length rc) := hap9.bl.cell 7
                      rwa [HR.out] at this
                    subst hva2
                    clear hrr hap2 hgr2 hap9 gg9 hou hlo hj gl htj hx hP hjl
                    go_wp2_with fail
                    refine HPL.out.mono ?_
                    rintro e w6 ⟨rfl, rfl⟩
                    go_wp2_with (at_builtin; refine wpList_app rfl _ _ 37 rfl (.slice va9 OU2.length vc9) (.slice (some ⟨wr.heap.size, 0, none⟩) 1 1) v2 _ W2 rfl rfl HRR2.out ?_)
                    go_roundw
                    case rel => exact ⟨j + 1, _, q10, rfl, HEQ.out, HFF.out.1, HFF.out.2⟩
                    case measure => simp [intOf]; omega
              | true =>
                have HTL := hide (show tell (place res) (ob y) = [-2, C, l, 2] ++ ((ob y).rs.map (place res) ++ (ob y).ds) from by unfold tell; rw [hC, hl, hf, hd]; rfl)
                have gl := Grow.box w8 (.cells (ints [-2, C, l, 2]).toArray 3)
                obtain ⟨v1, W1, hrr, hap1, hgr1⟩ := (HAPP.out.grow gl).app (c := 4) (by have h1 := HG8.out.size; have h2 := gl.size; omega) (own_rd (OL.lit w8 [-2, C, l, 2] (by simp))) (by have h1 := HOUT.out.2; have h2 := HRL.out; have h3 := HRN.out; simp; omega)
                have hg1 := hgr1 w4 (HG8.out.trans gl) (Nat.le_refl _)
                have HRR := hide hrr
                have q7 : W1.cell? ⟨p, 7, none⟩ = some (.slice ra R rc) := by
                  have : W1.cell? ⟨p, 7, none⟩ = some (.slice ra (ob y).rs.length rc) := hap1.bl.cell 7
                  rwa [hR] at this
                have HAP1 := hide hap1
                have HG1 := hide hg1
                clear hrr hap1 hg1 hgr1 gl hC hl hf hd hR
                go_wp2_with (at_builtin; refine wpList_app rfl _ _ 37 rfl (.slice va LN vc) (.slice (some ⟨w8.heap.size, 0, none⟩) 4 4) v1 _ W1 rfl rfl HRR.out ?_)
                clear q7 q0 q4 q5 q6
                go_loopw [6, 63] (fun u v w9 => ∃ (j : Nat) (OU2 : List Int), j ≤ R ∧ v = .int .i64 j ∧ OU2 = (OUT ++ [-2, C, l, 2]) ++ ((ob y).rs.take j).map (place res) ∧ Ap w9 w4.heap.size p u (.slice ra (ob y).rs.length rc) (.slice da (ob y).ds.length dc) OU2 (ob y) ∧ Grow w4 w9) (fun _ v _ => R - (intOf v).toNat)
                case atStart => exact ⟨0, _, Nat.zero_le _, rfl, by simp, HAP1.out, HG1.out⟩
                case round =>
                  obtain ⟨j, OU2, hj, rfl, hou, hap9, gg9⟩ := hrel
                  have hlo : OU2.length ≤ OUT.length + 4 + j := by rw [hou]; simp; omega
                  obtain ⟨va9, vc9, hv⟩ := own_len hap9.ol
                  subst hv
                  rcases Nat.eq_or_lt_of_le hj with hje | hjlt
                  · subst hje
                    have q9 : decide ((j : Int) < j) = false := by simp
                    rw [List.take_of_length_le (by rw [HR.out]; exact Nat.le_refl _)] at hou
                    obtain ⟨v2, W2, hrr, hap2, hgr2⟩ := hap9.app (c := dc) gg9.size (own_rd hap9.ds) (by have h1 := HOUT.out.2; have h2 := HRL.out; have h3 := HRN.out; have h4 := HBD.out; have h5 := HR.out; omega)
                    have HRR2 := hide hrr
                    have HFF := hide (show OL W2 w4.heap.size v2 (OU2 ++ (ob y).ds) ∧ Grow w4 W2 from ⟨hap2.ol, hgr2 w4 gg9 (Nat.le_refl _)⟩)
                    have HEQ := hide (show OU2 ++ (ob y).ds = fr.map (place res) ++ (res.take (k + 1)).flatMap (fun a => tell (place res) (ob a)) from by
                      rw [HTK.out, HTL.out, hou, HOUT.out.1]
                      simp only [List.append_assoc])
                    have HLE := hide (show (OU2 ++ (ob y).ds).length ≤ 100000 + (k + 1) * 300 from by
                      have h1 := HOUT.out.2
                      have h4 := HBD.out
                      have h5 := HR.out
                      rw [List.length_append]
                      omega)
                    have q8 : wr.cell? ⟨p, 8, none⟩ = some (.slice da (ob y).ds.length dc) := hap9.bl.cell 8
                    clear hrr hap2 hgr2 hap9 gg9 hou hlo hj
                    go_wp2_with (at_builtin; refine wpList_app rfl _ _ 37 rfl (.slice va9 OU2.length vc9) (.slice da (ob y).ds.length dc) v2 _ W2 rfl rfl HRR2.out ?_)
                    go_roundw
                    case rel => exact ⟨k + 1, _, q2, rfl, HEQ.out, HLE.out, HFF.out.1, HFF.out.2⟩
                    case measure => simp [intOf]; omega
                  · have q9 : decide ((j : Int) < R) = true := decide_eq_true (by omega)
                    have q10 : j < R := hjlt
                    have hjl : j < (ob y).rs.length := by rw [HR.out]; exact hjlt
                    have hwj : IntKind.i64.wrap ((j : Int) + 1) = ((j + 1 : Nat) : Int) := (IntWalk.i64_in _ (by have := HBD.out; have := HR.out; omega)).trans (by omega)
                    obtain ⟨ad2, hva2, hcx⟩ := (own_rd hap9.rs).at_ hjl
                    obtain ⟨x, hx⟩ : ∃ x, (ob y).rs.getD j 0 = x := ⟨_, rfl⟩
                    obtain ⟨P, hP⟩ : ∃ P, place res x = P := ⟨_, rfl⟩
                    have htj : ((ob y).rs.take (j + 1)).map (place res) = ((ob y).rs.take j).map (place res) ++ [P] := by
                      rw [List.take_add_one, List.getElem?_eq_getElem hjl, List.map_append, ← hP, ← hx]
                      simp [List.getD_eq_getElem?_getD, hjl]
                    rw [hx] at hcx
                    have HPL := hide (show Calls Tryz.prog 50 #[.slice (some ad) N ac, .int .i64 x] wr fun e w' => e = .returned (.int .i64 P) ∧ wr = w' from hP ▸ rplace_any (HALL.out.grow gg9) (by have := HRL.out; have := HRN.out; omega))
                    have gl := Grow.box wr (.cells (ints [P]).toArray 3)
                    obtain ⟨v2, W2, hrr, hap2, hgr2⟩ := (hap9.grow gl).app (c := 1) (by have h1 := gg9.size; have h2 := gl.size; omega) (own_rd (OL.lit wr [P] (by simp))) (by have h1 := HOUT.out.2; have h2 := HRL.out; have h3 := HRN.out; have h4 := HBD.out; have h5 := HR.out; simp; omega)
                    have HRR2 := hide hrr
                    have HFF := hide (And.intro hap2 (hgr2 w4 (gg9.trans gl) (Nat.le_refl _)))
                    have HEQ := hide (show OU2 ++ [P] = (OUT ++ [-2, C, l, 2]) ++ ((ob y).rs.take (j + 1)).map (place res) from by
                      rw [htj, hou]
                      simp only [List.append_assoc])
                    have q7 : wr.cell? ⟨p, 7, none⟩ = some (.slice ra R rc) := by
                      have : wr.cell? ⟨p, 7, none⟩ = some (.slice ra (ob y).rs.length rc) := hap9.bl.cell 7
                      rwa [HR.out] at this
                    subst hva2
                    clear hrr hap2 hgr2 hap9 gg9 hou hlo hj gl htj hx hP hjl
                    go_wp2_with fail
                    refine HPL.out.mono ?_
                    rintro e w6 ⟨rfl, rfl⟩
                    go_wp2_with (at_builtin; refine wpList_app rfl _ _ 37 rfl (.slice va9 OU2.length vc9) (.slice (some ⟨wr.heap.size, 0, none⟩) 1 1) v2 _ W2 rfl rfl HRR2.out ?_)
                    go_roundw
                    case rel => exact ⟨j + 1, _, q10, rfl, HEQ.out, HFF.out.1, HFF.out.2⟩
                    case measure => simp [intOf]; omega
            | true =>
              cases dd with
              | false =>
                have HTL := hide (show tell (place res) (ob y) = [-2, C, l, 1] ++ ((ob y).rs.map (place res) ++ (ob y).ds) from by unfold tell; rw [hC, hl, hf, hd]; rfl)
                have gl := Grow.box w8 (.cells (ints [-2, C, l, 1]).toArray 3)
                obtain ⟨v1, W1, hrr, hap1, hgr1⟩ := (HAPP.out.grow gl).app (c := 4) (by have h1 := HG8.out.size; have h2 := gl.size; omega) (own_rd (OL.lit w8 [-2, C, l, 1] (by simp))) (by have h1 := HOUT.out.2; have h2 := HRL.out; have h3 := HRN.out; simp; omega)
                have hg1 := hgr1 w4 (HG8.out.trans gl) (Nat.le_refl _)
                have HRR := hide hrr
                have q7 : W1.cell? ⟨p, 7, none⟩ = some (.slice ra R rc) := by
                  have : W1.cell? ⟨p, 7, none⟩ = some (.slice ra (ob y).rs.length rc) := hap1.bl.cell 7
                  rwa [hR] at this
                have HAP1 := hide hap1
                have HG1 := hide hg1
                clear hrr hap1 hg1 hgr1 gl hC hl hf hd hR
                go_wp2_with (at_builtin; refine wpList_app rfl _ _ 37 rfl (.slice va LN vc) (.slice (some ⟨w8.heap.size, 0, none⟩) 4 4) v1 _ W1 rfl rfl HRR.out ?_)
                clear q7 q0 q4 q5 q6
                go_loopw [6, 63] (fun u v w9 => ∃ (j : Nat) (OU2 : List Int), j ≤ R ∧ v = .int .i64 j ∧ OU2 = (OUT ++ [-2, C, l, 1]) ++ ((ob y).rs.take j).map (place res) ∧ Ap w9 w4.heap.size p u (.slice ra (ob y).rs.length rc) (.slice da (ob y).ds.length dc) OU2 (ob y) ∧ Grow w4 w9) (fun _ v _ => R - (intOf v).toNat)
                case atStart => exact ⟨0, _, Nat.zero_le _, rfl, by simp, HAP1.out, HG1.out⟩
                case round =>
                  obtain ⟨j, OU2, hj, rfl, hou, hap9, gg9⟩ := hrel
                  have hlo : OU2.length ≤ OUT.length + 4 + j := by rw [hou]; simp; omega
                  obtain ⟨va9, vc9, hv⟩ := own_len hap9.ol
                  subst hv
                  rcases Nat.eq_or_lt_of_le hj with hje | hjlt
                  · subst hje
                    have q9 : decide ((j : Int) < j) = false := by simp
                    rw [List.take_of_length_le (by rw [HR.out]; exact Nat.le_refl _)] at hou
                    obtain ⟨v2, W2, hrr, hap2, hgr2⟩ := hap9.app (c := dc) gg9.size (own_rd hap9.ds) (by have h1 := HOUT.out.2; have h2 := HRL.out; have h3 := HRN.out; have h4 := HBD.out; have h5 := HR.out; omega)
                    have HRR2 := hide hrr
                    have HFF := hide (show OL W2 w4.heap.size v2 (OU2 ++ (ob y).ds) ∧ Grow w4 W2 from ⟨hap2.ol, hgr2 w4 gg9 (Nat.le_refl _)⟩)
                    have HEQ := hide (show OU2 ++ (ob y).ds = fr.map (place res) ++ (res.take (k + 1)).flatMap (fun a => tell (place res) (ob a)) from by
                      rw [HTK.out, HTL.out, hou, HOUT.out.1]
                      simp only [List.append_assoc])
                    have HLE := hide (show (OU2 ++ (ob y).ds).length ≤ 100000 + (k + 1) * 300 from by
                      have h1 := HOUT.out.2
                      have h4 := HBD.out
                      have h5 := HR.out
                      rw [List.length_append]
                      omega)
                    have q8 : wr.cell? ⟨p, 8, none⟩ = some (.slice da (ob y).ds.length dc) := hap9.bl.cell 8
                    clear hrr hap2 hgr2 hap9 gg9 hou hlo hj
                    go_wp2_with (at_builtin; refine wpList_app rfl _ _ 37 rfl (.slice va9 OU2.length vc9) (.slice da (ob y).ds.length dc) v2 _ W2 rfl rfl HRR2.out ?_)
                    go_roundw
                    case rel => exact ⟨k + 1, _, q2, rfl, HEQ.out, HLE.out, HFF.out.1, HFF.out.2⟩
                    case measure => simp [intOf]; omega
                  · have q9 : decide ((j : Int) < R) = true := decide_eq_true (by omega)
                    have q10 : j < R := hjlt
                    have hjl : j < (ob y).rs.length := by rw [HR.out]; exact hjlt
                    have hwj : IntKind.i64.wrap ((j : Int) + 1) = ((j + 1 : Nat) : Int) := (IntWalk.i64_in _ (by have := HBD.out; have := HR.out; omega)).trans (by omega)
                    obtain ⟨ad2, hva2, hcx⟩ := (own_rd hap9.rs).at_ hjl
                    obtain ⟨x, hx⟩ : ∃ x, (ob y).rs.getD j 0 = x := ⟨_, rfl⟩
                    obtain ⟨P, hP⟩ : ∃ P, place res x = P := ⟨_, rfl⟩
                    have htj : ((ob y).rs.take (j + 1)).map (place res) = ((ob y).rs.take j).map (place res) ++ [P] := by
                      rw [List.take_add_one, List.getElem?_eq_getElem hjl, List.map_append, ← hP, ← hx]
                      simp [List.getD_eq_getElem?_getD, hjl]
                    rw [hx] at hcx
                    have HPL := hide (show Calls Tryz.prog 50 #[.slice (some ad) N ac, .int .i64 x] wr fun e w' => e = .returned (.int .i64 P) ∧ wr = w' from hP ▸ rplace_any (HALL.out.grow gg9) (by have := HRL.out; have := HRN.out; omega))
                    have gl := Grow.box wr (.cells (ints [P]).toArray 3)
                    obtain ⟨v2, W2, hrr, hap2, hgr2⟩ := (hap9.grow gl).app (c := 1) (by have h1 := gg9.size; have h2 := gl.size; omega) (own_rd (OL.lit wr [P] (by simp))) (by have h1 := HOUT.out.2; have h2 := HRL.out; have h3 := HRN.out; have h4 := HBD.out; have h5 := HR.out; simp; omega)
                    have HRR2 := hide hrr
                    have HFF := hide (And.intro hap2 (hgr2 w4 (gg9.trans gl) (Nat.le_refl _)))
                    have HEQ := hide (show OU2 ++ [P] = (OUT ++ [-2, C, l, 1]) ++ ((ob y).rs.take (j + 1)).map (place res) from by
                      rw [htj, hou]
                      simp only [List.append_assoc])
                    have q7 : wr.cell? ⟨p, 7, none⟩ = some (.slice ra R rc) := by
                      have : wr.cell? ⟨p, 7, none⟩ = some (.slice ra (ob y).rs.length rc) := hap9.bl.cell 7
                      rwa [HR.out] at this
                    subst hva2
                    clear hrr hap2 hgr2 hap9 gg9 hou hlo hj gl htj hx hP hjl
                    go_wp2_with fail
                    refine HPL.out.mono ?_
                    rintro e w6 ⟨rfl, rfl⟩
                    go_wp2_with (at_builtin; refine wpList_app rfl _ _ 37 rfl (.slice va9 OU2.length vc9) (.slice (some ⟨wr.heap.size, 0, none⟩) 1 1) v2 _ W2 rfl rfl HRR2.out ?_)
                    go_roundw
                    case rel => exact ⟨j + 1, _, q10, rfl, HEQ.out, HFF.out.1, HFF.out.2⟩
                    case measure => simp [intOf]; omega
              | true =>
                have HTL := hide (show tell (place res) (ob y) = [-2, C, l, 3] ++ ((ob y).rs.map (place res) ++ (ob y).ds) from by unfold tell; rw [hC, hl, hf, hd]; rfl)
                have gl := Grow.box w8 (.cells (ints [-2, C, l, 3]).toArray 3)
                obtain ⟨v1, W1, hrr, hap1, hgr1⟩ := (HAPP.out.grow gl).app (c := 4) (by have h1 := HG8.out.size; have h2 := gl.size; omega) (own_rd (OL.lit w8 [-2, C, l, 3] (by simp))) (by have h1 := HOUT.out.2; have h2 := HRL.out; have h3 := HRN.out; simp; omega)
                have hg1 := hgr1 w4 (HG8.out.trans gl) (Nat.le_refl _)
                have HRR := hide hrr
                have q7 : W1.cell? ⟨p, 7, none⟩ = some (.slice ra R rc) := by
                  have : W1.cell? ⟨p, 7, none⟩ = some (.slice ra (ob y).rs.length rc) := hap1.bl.cell 7
                  rwa [hR] at this
                have HAP1 := hide hap1
                have HG1 := hide hg1
                clear hrr hap1 hg1 hgr1 gl hC hl hf hd hR
                go_wp2_with (at_builtin; refine wpList_app rfl _ _ 37 rfl (.slice va LN vc) (.slice (some ⟨w8.heap.size, 0, none⟩) 4 4) v1 _ W1 rfl rfl HRR.out ?_)
                clear q7 q0 q4 q5 q6
                go_loopw [6, 63] (fun u v w9 => ∃ (j : Nat) (OU2 : List Int), j ≤ R ∧ v = .int .i64 j ∧ OU2 = (OUT ++ [-2, C, l, 3]) ++ ((ob y).rs.take j).map (place res) ∧ Ap w9 w4.heap.size p u (.slice ra (ob y).rs.length rc) (.slice da (ob y).ds.length dc) OU2 (ob y) ∧ Grow w4 w9) (fun _ v _ => R - (intOf v).toNat)
                case atStart => exact ⟨0, _, Nat.zero_le _, rfl, by simp, HAP1.out, HG1.out⟩
                case round =>
                  obtain ⟨j, OU2, hj, rfl, hou, hap9, gg9⟩ := hrel
                  have hlo : OU2.length ≤ OUT.length + 4 + j := by rw [hou]; simp; omega
                  obtain ⟨va9, vc9, hv⟩ := own_len hap9.ol
                  subst hv
                  rcases Nat.eq_or_lt_of_le hj with hje | hjlt
                  · subst hje
                    have q9 : decide ((j : Int) < j) = false := by simp
                    rw [List.take_of_length_le (by rw [HR.out]; exact Nat.le_refl _)] at hou
                    obtain ⟨v2, W2, hrr, hap2, hgr2⟩ := hap9.app (c := dc) gg9.size (own_rd hap9.ds) (by have h1 := HOUT.out.2; have h2 := HRL.out; have h3 := HRN.out; have h4 := HBD.out; have h5 := HR.out; omega)
                    have HRR2 := hide hrr
                    have HFF := hide (show OL W2 w4.heap.size v2 (OU2 ++ (ob y).ds) ∧ Grow w4 W2 from ⟨hap2.ol, hgr2 w4 gg9 (Nat.le_refl _)⟩)
                    have HEQ := hide (show OU2 ++ (ob y).ds = fr.map (place res) ++ (res.take (k + 1)).flatMap (fun a => tell (place res) (ob a)) from by
                      rw [HTK.out, HTL.out, hou, HOUT.out.1]
                      simp only [List.append_assoc])
                    have HLE := hide (show (OU2 ++ (ob y).ds).length ≤ 100000 + (k + 1) * 300 from by
                      have h1 := HOUT.out.2
                      have h4 := HBD.out
                      have h5 := HR.out
                      rw [List.length_append]
                      omega)
                    have q8 : wr.cell? ⟨p, 8, none⟩ = some (.slice da (ob y).ds.length dc) := hap9.bl.cell 8
                    clear hrr hap2 hgr2 hap9 gg9 hou hlo hj
                    go_wp2_with (at_builtin; refine wpList_app rfl _ _ 37 rfl (.slice va9 OU2.length vc9) (.slice da (ob y).ds.length dc) v2 _ W2 rfl rfl HRR2.out ?_)
                    go_roundw
                    case rel => exact ⟨k + 1, _, q2, rfl, HEQ.out, HLE.out, HFF.out.1, HFF.out.2⟩
                    case measure => simp [intOf]; omega
                  · have q9 : decide ((j : Int) < R) = true := decide_eq_true (by omega)
                    have q10 : j < R := hjlt
                    have hjl : j < (ob y).rs.length := by rw [HR.out]; exact hjlt
                    have hwj : IntKind.i64.wrap ((j : Int) + 1) = ((j + 1 : Nat) : Int) := (IntWalk.i64_in _ (by have := HBD.out; have := HR.out; omega)).trans (by omega)
                    obtain ⟨ad2, hva2, hcx⟩ := (own_rd hap9.rs).at_ hjl
                    obtain ⟨x, hx⟩ : ∃ x, (ob y).rs.getD j 0 = x := ⟨_, rfl⟩
                    obtain ⟨P, hP⟩ : ∃ P, place res x = P := ⟨_, rfl⟩
                    have htj : ((ob y).rs.take (j + 1)).map (place res) = ((ob y).rs.take j).map (place res) ++ [P] := by
                      rw [List.take_add_one, List.getElem?_eq_getElem hjl, List.map_append, ← hP, ← hx]
                      simp [List.getD_eq_getElem?_getD, hjl]
                    rw [hx] at hcx
                    have HPL := hide (show Calls Tryz.prog 50 #[.slice (some ad) N ac, .int .i64 x] wr fun e w' => e = .returned (.int .i64 P) ∧ wr = w' from hP ▸ rplace_any (HALL.out.grow gg9) (by have := HRL.out; have := HRN.out; omega))
                    have gl := Grow.box wr (.cells (ints [P]).toArray 3)
                    obtain ⟨v2, W2, hrr, hap2, hgr2⟩ := (hap9.grow gl).app (c := 1) (by have h1 := gg9.size; have h2 := gl.size; omega) (own_rd (OL.lit wr [P] (by simp))) (by have h1 := HOUT.out.2; have h2 := HRL.out; have h3 := HRN.out; have h4 := HBD.out; have h5 := HR.out; simp; omega)
                    have HRR2 := hide hrr
                    have HFF := hide (And.intro hap2 (hgr2 w4 (gg9.trans gl) (Nat.le_refl _)))
                    have HEQ := hide (show OU2 ++ [P] = (OUT ++ [-2, C, l, 3]) ++ ((ob y).rs.take (j + 1)).map (place res) from by
                      rw [htj, hou]
                      simp only [List.append_assoc])
                    have q7 : wr.cell? ⟨p, 7, none⟩ = some (.slice ra R rc) := by
                      have : wr.cell? ⟨p, 7, none⟩ = some (.slice ra (ob y).rs.length rc) := hap9.bl.cell 7
                      rwa [HR.out] at this
                    subst hva2
                    clear hrr hap2 hgr2 hap9 gg9 hou hlo hj gl htj hx hP hjl
                    go_wp2_with fail
                    refine HPL.out.mono ?_
                    rintro e w6 ⟨rfl, rfl⟩
                    go_wp2_with (at_builtin; refine wpList_app rfl _ _ 37 rfl (.slice va9 OU2.length vc9) (.slice (some ⟨wr.heap.size, 0, none⟩) 1 1) v2 _ W2 rfl rfl HRR2.out ?_)
                    go_roundw
                    case rel => exact ⟨j + 1, _, q10, rfl, HEQ.out, HFF.out.1, HFF.out.2⟩
                    case measure => simp [intOf]; omega
          · have hob := put9 hz9 (.int .i64 (ob y).C) (.int .i64 (ob y).A) (.int .i64 (ob y).F) (.bool (ob y).m) (.bool (ob y).f) (.bool (ob y).d) (.int .i64 (ob y).l) (.slice ra (ob y).rs.length rc) (.slice da (ob y).ds.length dc)
            have hg8 := new9 (g := wr.heap.size) (Nat.le_refl _) (Chg.trans (Chg.drew ((Chg.refl _ _).alloc _)) g6) (.int .i64 (ob y).C) (.int .i64 (ob y).A) (.int .i64 (ob y).F) (.bool (ob y).m) (.bool (ob y).f) (.bool (ob y).d) (.int .i64 (ob y).l) (.slice ra (ob y).rs.length rc) (.slice da (ob y).ds.length dc)
            have h2 : ∀ o, (wr.alloc o).drew.heap.size = wr.heap.size + 1 := fun o => by simp [World.drew]
            have hvr8 := (hvr.chg (chg9 (g := wr.heap.size) (Chg.refl _ w6) (.int .i64 (ob y).C) (.int .i64 (ob y).A) (.int .i64 (ob y).F) (.bool (ob y).m) (.bool (ob y).f) (.bool (ob y).d) (.int .i64 (ob y).l) (.slice ra (ob y).rs.length rc) (.slice da (ob y).ds.length dc)) (fun j e h => by
              have h1 := (hvr.lt j e).1
              rw [h2] at h1
              omega)).lower (b' := wr.heap.size) (by simp [World.drew])
            have hvd8 := (hvd.chg (chg9 (g := wr.heap.size) (Chg.refl _ w6) (.int .i64 (ob y).C) (.int .i64 (ob y).A) (.int .i64 (ob y).F) (.bool (ob y).m) (.bool (ob y).f) (.bool (ob y).d) (.int .i64 (ob y).l) (.slice ra (ob y).rs.length rc) (.slice da (ob y).ds.length dc)) (fun j e h => by
              have h1 := (hvd.lt j e).1
              rw [h2] at h1
              omega)).lower (b' := wr.heap.size) (by simp [World.drew])
            have hrp : ∀ j, (Value.slice va LN vc).ownBlock = some j → (Value.slice ra (ob y).rs.length rc).ownBlock ≠ some j := fun j e1 e2 => by
              have h1 := (HO.out.lt j e1).2
              have h2 := (hvr8.lt j e2).1
              omega
            have hdp : ∀ j, (Value.slice va LN vc).ownBlock = some j → (Value.slice da (ob y).ds.length dc).ownBlock ≠ some j := fun j e1 e2 => by
              have h1 := (HO.out.lt j e1).2
              have h2 := (hvd8.lt j e2).1
              omega
            replace hvr8 := hvr8.lower (b' := w4.heap.size) HG.out.size
            replace hvd8 := hvd8.lower (b' := w4.heap.size) HG.out.size
            clear hk0 hk1 hk2 hk3 hk4 hk5 hk6 f0 f1 f2 f3 f4 f5 f6 f7 f8 z0 z1 z2 z3 z4 z5 z6 z7 z8 hvd hvr g6 HK HAY hz9 h2
            generalize (((((((((w6.setCell ⟨wr.heap.size, 0, none⟩ (.int .i64 (ob y).C)).setCell ⟨wr.heap.size, 1, none⟩ (.int .i64 (ob y).A)).setCell ⟨wr.heap.size, 2, none⟩ (.int .i64 (ob y).F)).setCell ⟨wr.heap.size, 3, none⟩ (.bool (ob y).m)).setCell ⟨wr.heap.size, 4, none⟩ (.bool (ob y).f)).setCell ⟨wr.heap.size, 5, none⟩ (.bool (ob y).d)).setCell ⟨wr.heap.size, 6, none⟩ (.int .i64 (ob y).l)).setCell ⟨wr.heap.size, 7, none⟩ (.slice ra (ob y).rs.length rc)).setCell ⟨wr.heap.size, 8, none⟩ (.slice da (ob y).ds.length dc)) = w8 at *
            generalize hpp : wr.heap.size = p at *
            clear hpp
            have hap : Ap w8 w4.heap.size p (.slice va LN vc) (.slice ra (ob y).rs.length rc) (.slice da (ob y).ds.length dc) OUT (ob y) := ⟨HO.out.grow hg8, hob, hvr8, hvd8, hrp, hdp⟩
            have HG8 := hide (HG.out.trans hg8)
            clear hob hg8 hvr8 hvd8 hrp hdp
            obtain ⟨R, hR⟩ : ∃ R, (ob y).rs.length = R := ⟨_, rfl⟩
            obtain ⟨C, hC⟩ : ∃ C, (ob y).C = C := ⟨_, rfl⟩
            obtain ⟨l, hl⟩ : ∃ l, (ob y).l = l := ⟨_, rfl⟩
            obtain ⟨ff, hf⟩ : ∃ ff, (ob y).f = ff := ⟨_, rfl⟩
            obtain ⟨dd, hd⟩ : ∃ dd, (ob y).d = dd := ⟨_, rfl⟩
            have HR := hide hR
            have HBD := hide (HLN.out y HYR.out)
            have HAPP := hide hap
            have q0 : w8.cell? ⟨p, 0, none⟩ = some (.int .i64 C) := hC ▸ hap.bl.cell 0
            have q4 : w8.cell? ⟨p, 4, none⟩ = some (.bool ff) := hf ▸ hap.bl.cell 4
            have q5 : w8.cell? ⟨p, 5, none⟩ = some (.bool dd) := hd ▸ hap.bl.cell 5
            have q6 : w8.cell? ⟨p, 6, none⟩ = some (.int .i64 l) := hl ▸ hap.bl.cell 6
            clear hap
            cases ff with
            | false =>
              cases dd with
              | false =>
                have HTL := hide (show tell (place res) (ob y) = [-2, C, l, 0] ++ ((ob y).rs.map (place res) ++ (ob y).ds) from by unfold tell; rw [hC, hl, hf, hd]; rfl)
                have gl := Grow.box w8 (.cells (ints [-2, C, l, 0]).toArray 3)
                obtain ⟨v1, W1, hrr, hap1, hgr1⟩ := (HAPP.out.grow gl).app (c := 4) (by have h1 := HG8.out.size; have h2 := gl.size; omega) (own_rd (OL.lit w8 [-2, C, l, 0] (by simp))) (by have h1 := HOUT.out.2; have h2 := HRL.out; have h3 := HRN.out; simp; omega)
                have hg1 := hgr1 w4 (HG8.out.trans gl) (Nat.le_refl _)
                have HRR := hide hrr
                have q7 : W1.cell? ⟨p, 7, none⟩ = some (.slice ra R rc) := by
                  have : W1.cell? ⟨p, 7, none⟩ = some (.slice ra (ob y).rs.length rc) := hap1.bl.cell 7
                  rwa [hR] at this
                have HAP1 := hide hap1
                have HG1 := hide hg1
                clear hrr hap1 hg1 hgr1 gl hC hl hf hd hR
                go_wp2_with (at_builtin; refine wpList_app rfl _ _ 37 rfl (.slice va LN vc) (.slice (some ⟨w8.heap.size, 0, none⟩) 4 4) v1 _ W1 rfl rfl HRR.out ?_)
                clear q7 q0 q4 q5 q6
                go_loopw [6, 63] (fun u v w9 => ∃ (j : Nat) (OU2 : List Int), j ≤ R ∧ v = .int .i64 j ∧ OU2 = (OUT ++ [-2, C, l, 0]) ++ ((ob y).rs.take j).map (place res) ∧ Ap w9 w4.heap.size p u (.slice ra (ob y).rs.length rc) (.slice da (ob y).ds.length dc) OU2 (ob y) ∧ Grow w4 w9) (fun _ v _ => R - (intOf v).toNat)
                case atStart => exact ⟨0, _, Nat.zero_le _, rfl, by simp, HAP1.out, HG1.out⟩
                case round =>
                  obtain ⟨j, OU2, hj, rfl, hou, hap9, gg9⟩ := hrel
                  have hlo : OU2.length ≤ OUT.length + 4 + j := by rw [hou]; simp; omega
                  obtain ⟨va9, vc9, hv⟩ := own_len hap9.ol
                  subst hv
                  rcases Nat.eq_or_lt_of_le hj with hje | hjlt
                  · subst hje
                    have q9 : decide ((j : Int) < j) = false := by simp
                    rw [List.take_of_length_le (by rw [HR.out]; exact Nat.le_refl _)] at hou
                    obtain ⟨v2, W2, hrr, hap2, hgr2⟩ := hap9.app (c := dc) gg9.size (own_rd hap9.ds) (by have h1 := HOUT.out.2; have h2 := HRL.out; have h3 := HRN.out; have h4 := HBD.out; have h5 := HR.out; omega)
                    have HRR2 := hide hrr
                    have HFF := hide (show OL W2 w4.heap.size v2 (OU2 ++ (ob y).ds) ∧ Grow w4 W2 from ⟨hap2.ol, hgr2 w4 gg9 (Nat.le_refl _)⟩)
                    have HEQ := hide (show OU2 ++ (ob y).ds = fr.map (place res) ++ (res.take (k + 1)).flatMap (fun a => tell (place res) (ob a)) from by
                      rw [HTK.out, HTL.out, hou, HOUT.out.1]
                      simp only [List.append_assoc])
                    have HLE := hide (show (OU2 ++ (ob y).ds).length ≤ 100000 + (k + 1) * 300 from by
                      have h1 := HOUT.out.2
                      have h4 := HBD.out
                      have h5 := HR.out
                      rw [List.length_append]
                      omega)
                    have q8 : wr.cell? ⟨p, 8, none⟩ = some (.slice da (ob y).ds.length dc) := hap9.bl.cell 8
                    clear hrr hap2 hgr2 hap9 gg9 hou hlo hj
                    go_wp2_with (at_builtin; refine wpList_app rfl _ _ 37 rfl (.slice va9 OU2.length vc9) (.slice da (ob y).ds.length dc) v2 _ W2 rfl rfl HRR2.out ?_)
                    go_roundw
                    case rel => exact ⟨k + 1, _, q2, rfl, HEQ.out, HLE.out, HFF.out.1, HFF.out.2⟩
                    case measure => simp [intOf]; omega
                  · have q9 : decide ((j : Int) < R) = true := decide_eq_true (by omega)
                    have q10 : j < R := hjlt
                    have hjl : j < (ob y).rs.length := by rw [HR.out]; exact hjlt
                    have hwj : IntKind.i64.wrap ((j : Int) + 1) = ((j + 1 : Nat) : Int) := (IntWalk.i64_in _ (by have := HBD.out; have := HR.out; omega)).trans (by omega)
                    obtain ⟨ad2, hva2, hcx⟩ := (own_rd hap9.rs).at_ hjl
                    obtain ⟨x, hx⟩ : ∃ x, (ob y).rs.getD j 0 = x := ⟨_, rfl⟩
                    obtain ⟨P, hP⟩ : ∃ P, place res x = P := ⟨_, rfl⟩
                    have htj : ((ob y).rs.take (j + 1)).map (place res) = ((ob y).rs.take j).map (place res) ++ [P] := by
                      rw [List.take_add_one, List.getElem?_eq_getElem hjl, List.map_append, ← hP, ← hx]
                      simp [List.getD_eq_getElem?_getD, hjl]
                    rw [hx] at hcx
                    have HPL := hide (show Calls Tryz.prog 50 #[.slice (some ad) N ac, .int .i64 x] wr fun e w' => e = .returned (.int .i64 P) ∧ wr = w' from hP ▸ rplace_any (HALL.out.grow gg9) (by have := HRL.out; have := HRN.out; omega))
                    have gl := Grow.box wr (.cells (ints [P]).toArray 3)
                    obtain ⟨v2, W2, hrr, hap2, hgr2⟩ := (hap9.grow gl).app (c := 1) (by have h1 := gg9.size; have h2 := gl.size; omega) (own_rd (OL.lit wr [P] (by simp))) (by have h1 := HOUT.out.2; have h2 := HRL.out; have h3 := HRN.out; have h4 := HBD.out; have h5 := HR.out; simp; omega)
                    have HRR2 := hide hrr
                    have HFF := hide (And.intro hap2 (hgr2 w4 (gg9.trans gl) (Nat.le_refl _)))
                    have HEQ := hide (show OU2 ++ [P] = (OUT ++ [-2, C, l, 0]) ++ ((ob y).rs.take (j + 1)).map (place res) from by
                      rw [htj, hou]
                      simp only [List.append_assoc])
                    have q7 : wr.cell? ⟨p, 7, none⟩ = some (.slice ra R rc) := by
                      have : wr.cell? ⟨p, 7, none⟩ = some (.slice ra (ob y).rs.length rc) := hap9.bl.cell 7
                      rwa [HR.out] at this
                    subst hva2
                    clear hrr hap2 hgr2 hap9 gg9 hou hlo hj gl htj hx hP hjl
                    go_wp2_with fail
                    refine HPL.out.mono ?_
                    rintro e w6 ⟨rfl, rfl⟩
                    go_wp2_with (at_builtin; refine wpList_app rfl _ _ 37 rfl (.slice va9 OU2.length vc9) (.slice (some ⟨wr.heap.size, 0, none⟩) 1 1) v2 _ W2 rfl rfl HRR2.out ?_)
                    go_roundw
                    case rel => exact ⟨j + 1, _, q10, rfl, HEQ.out, HFF.out.1, HFF.out.2⟩
                    case measure => simp [intOf]; omega
              | true =>
                have HTL := hide (show tell (place res) (ob y) = [-2, C, l, 2] ++ ((ob y).rs.map (place res) ++ (ob y).ds) from by unfold tell; rw [hC, hl, hf, hd]; rfl)
                have gl := Grow.box w8 (.cells (ints [-2, C, l, 2]).toArray 3)
                obtain ⟨v1, W1, hrr, hap1, hgr1⟩ := (HAPP.out.grow gl).app (c := 4) (by have h1 := HG8.out.size; have h2 := gl.size; omega) (own_rd (OL.lit w8 [-2, C, l, 2] (by simp))) (by have h1 := HOUT.out.2; have h2 := HRL.out; have h3 := HRN.out; simp; omega)
                have hg1 := hgr1 w4 (HG8.out.trans gl) (Nat.le_refl _)
                have HRR := hide hrr
                have q7 : W1.cell? ⟨p, 7, none⟩ = some (.slice ra R rc) := by
                  have : W1.cell? ⟨p, 7, none⟩ = some (.slice ra (ob y).rs.length rc) := hap1.bl.cell 7
                  rwa [hR] at this
                have HAP1 := hide hap1
                have HG1 := hide hg1
                clear hrr hap1 hg1 hgr1 gl hC hl hf hd hR
                go_wp2_with (at_builtin; refine wpList_app rfl _ _ 37 rfl (.slice va LN vc) (.slice (some ⟨w8.heap.size, 0, none⟩) 4 4) v1 _ W1 rfl rfl HRR.out ?_)
                clear q7 q0 q4 q5 q6
                go_loopw [6, 63] (fun u v w9 => ∃ (j : Nat) (OU2 : List Int), j ≤ R ∧ v = .int .i64 j ∧ OU2 = (OUT ++ [-2, C, l, 2]) ++ ((ob y).rs.take j).map (place res) ∧ Ap w9 w4.heap.size p u (.slice ra (ob y).rs.length rc) (.slice da (ob y).ds.length dc) OU2 (ob y) ∧ Grow w4 w9) (fun _ v _ => R - (intOf v).toNat)
                case atStart => exact ⟨0, _, Nat.zero_le _, rfl, by simp, HAP1.out, HG1.out⟩
                case round =>
                  obtain ⟨j, OU2, hj, rfl, hou, hap9, gg9⟩ := hrel
                  have hlo : OU2.length ≤ OUT.length + 4 + j := by rw [hou]; simp; omega
                  obtain ⟨va9, vc9, hv⟩ := own_len hap9.ol
                  subst hv
                  rcases Nat.eq_or_lt_of_le hj with hje | hjlt
                  · subst hje
                    have q9 : decide ((j : Int) < j) = false := by simp
                    rw [List.take_of_length_le (by rw [HR.out]; exact Nat.le_refl _)] at hou
                    obtain ⟨v2, W2, hrr, hap2, hgr2⟩ := hap9.app (c := dc) gg9.size (own_rd hap9.ds) (by have h1 := HOUT.out.2; have h2 := HRL.out; have h3 := HRN.out; have h4 := HBD.out; have h5 := HR.out; omega)
                    have HRR2 := hide hrr
                    have HFF := hide (show OL W2 w4.heap.size v2 (OU2 ++ (ob y).ds) ∧ Grow w4 W2 from ⟨hap2.ol, hgr2 w4 gg9 (Nat.le_refl _)⟩)
                    have HEQ := hide (show OU2 ++ (ob y).ds = fr.map (place res) ++ (res.take (k + 1)).flatMap (fun a => tell (place res) (ob a)) from by
                      rw [HTK.out, HTL.out, hou, HOUT.out.1]
                      simp only [List.append_assoc])
                    have HLE := hide (show (OU2 ++ (ob y).ds).length ≤ 100000 + (k + 1) * 300 from by
                      have h1 := HOUT.out.2
                      have h4 := HBD.out
                      have h5 := HR.out
                      rw [List.length_append]
                      omega)
                    have q8 : wr.cell? ⟨p, 8, none⟩ = some (.slice da (ob y).ds.length dc) := hap9.bl.cell 8
                    clear hrr hap2 hgr2 hap9 gg9 hou hlo hj
                    go_wp2_with (at_builtin; refine wpList_app rfl _ _ 37 rfl (.slice va9 OU2.length vc9) (.slice da (ob y).ds.length dc) v2 _ W2 rfl rfl HRR2.out ?_)
                    go_roundw
                    case rel => exact ⟨k + 1, _, q2, rfl, HEQ.out, HLE.out, HFF.out.1, HFF.out.2⟩
                    case measure => simp [intOf]; omega
                  · have q9 : decide ((j : Int) < R) = true := decide_eq_true (by omega)
                    have q10 : j < R := hjlt
                    have hjl : j < (ob y).rs.length := by rw [HR.out]; exact hjlt
                    have hwj : IntKind.i64.wrap ((j : Int) + 1) = ((j + 1 : Nat) : Int) := (IntWalk.i64_in _ (by have := HBD.out; have := HR.out; omega)).trans (by omega)
                    obtain ⟨ad2, hva2, hcx⟩ := (own_rd hap9.rs).at_ hjl
                    obtain ⟨x, hx⟩ : ∃ x, (ob y).rs.getD j 0 = x := ⟨_, rfl⟩
                    obtain ⟨P, hP⟩ : ∃ P, place res x = P := ⟨_, rfl⟩
                    have htj : ((ob y).rs.take (j + 1)).map (place res) = ((ob y).rs.take j).map (place res) ++ [P] := by
                      rw [List.take_add_one, List.getElem?_eq_getElem hjl, List.map_append, ← hP, ← hx]
                      simp [List.getD_eq_getElem?_getD, hjl]
                    rw [hx] at hcx
                    have HPL := hide (show Calls Tryz.prog 50 #[.slice (some ad) N ac, .int .i64 x] wr fun e w' => e = .returned (.int .i64 P) ∧ wr = w' from hP ▸ rplace_any (HALL.out.grow gg9) (by have := HRL.out; have := HRN.out; omega))
                    have gl := Grow.box wr (.cells (ints [P]).toArray 3)
                    obtain ⟨v2, W2, hrr, hap2, hgr2⟩ := (hap9.grow gl).app (c := 1) (by have h1 := gg9.size; have h2 := gl.size; omega) (own_rd (OL.lit wr [P] (by simp))) (by have h1 := HOUT.out.2; have h2 := HRL.out; have h3 := HRN.out; have h4 := HBD.out; have h5 := HR.out; simp; omega)
                    have HRR2 := hide hrr
                    have HFF := hide (And.intro hap2 (hgr2 w4 (gg9.trans gl) (Nat.le_refl _)))
                    have HEQ := hide (show OU2 ++ [P] = (OUT ++ [-2, C, l, 2]) ++ ((ob y).rs.take (j + 1)).map (place res) from by
                      rw [htj, hou]
                      simp only [List.append_assoc])
                    have q7 : wr.cell? ⟨p, 7, none⟩ = some (.slice ra R rc) := by
                      have : wr.cell? ⟨p, 7, none⟩ = some (.slice ra (ob y).rs.length rc) := hap9.bl.cell 7
                      rwa [HR.out] at this
                    subst hva2
                    clear hrr hap2 hgr2 hap9 gg9 hou hlo hj gl htj hx hP hjl
                    go_wp2_with fail
                    refine HPL.out.mono ?_
                    rintro e w6 ⟨rfl, rfl⟩
                    go_wp2_with (at_builtin; refine wpList_app rfl _ _ 37 rfl (.slice va9 OU2.length vc9) (.slice (some ⟨wr.heap.size, 0, none⟩) 1 1) v2 _ W2 rfl rfl HRR2.out ?_)
                    go_roundw
                    case rel => exact ⟨j + 1, _, q10, rfl, HEQ.out, HFF.out.1, HFF.out.2⟩
                    case measure => simp [intOf]; omega
            | true =>
              cases dd with
              | false =>
                have HTL := hide (show tell (place res) (ob y) = [-2, C, l, 1] ++ ((ob y).rs.map (place res) ++ (ob y).ds) from by unfold tell; rw [hC, hl, hf, hd]; rfl)
                have gl := Grow.box w8 (.cells (ints [-2, C, l, 1]).toArray 3)
                obtain ⟨v1, W1, hrr, hap1, hgr1⟩ := (HAPP.out.grow gl).app (c := 4) (by have h1 := HG8.out.size; have h2 := gl.size; omega) (own_rd (OL.lit w8 [-2, C, l, 1] (by simp))) (by have h1 := HOUT.out.2; have h2 := HRL.out; have h3 := HRN.out; simp; omega)
                have hg1 := hgr1 w4 (HG8.out.trans gl) (Nat.le_refl _)
                have HRR := hide hrr
                have q7 : W1.cell? ⟨p, 7, none⟩ = some (.slice ra R rc) := by
                  have : W1.cell? ⟨p, 7, none⟩ = some (.slice ra (ob y).rs.length rc) := hap1.bl.cell 7
                  rwa [hR] at this
                have HAP1 := hide hap1
                have HG1 := hide hg1
                clear hrr hap1 hg1 hgr1 gl hC hl hf hd hR
                go_wp2_with (at_builtin; refine wpList_app rfl _ _ 37 rfl (.slice va LN vc) (.slice (some ⟨w8.heap.size, 0, none⟩) 4 4) v1 _ W1 rfl rfl HRR.out ?_)
                clear q7 q0 q4 q5 q6
                go_loopw [6, 63] (fun u v w9 => ∃ (j : Nat) (OU2 : List Int), j ≤ R ∧ v = .int .i64 j ∧ OU2 = (OUT ++ [-2, C, l, 1]) ++ ((ob y).rs.take j).map (place res) ∧ Ap w9 w4.heap.size p u (.slice ra (ob y).rs.length rc) (.slice da (ob y).ds.length dc) OU2 (ob y) ∧ Grow w4 w9) (fun _ v _ => R - (intOf v).toNat)
                case atStart => exact ⟨0, _, Nat.zero_le _, rfl, by simp, HAP1.out, HG1.out⟩
                case round =>
                  obtain ⟨j, OU2, hj, rfl, hou, hap9, gg9⟩ := hrel
                  have hlo : OU2.length ≤ OUT.length + 4 + j := by rw [hou]; simp; omega
                  obtain ⟨va9, vc9, hv⟩ := own_len hap9.ol
                  subst hv
                  rcases Nat.eq_or_lt_of_le hj with hje | hjlt
                  · subst hje
                    have q9 : decide ((j : Int) < j) = false := by simp
                    rw [List.take_of_length_le (by rw [HR.out]; exact Nat.le_refl _)] at hou
                    obtain ⟨v2, W2, hrr, hap2, hgr2⟩ := hap9.app (c := dc) gg9.size (own_rd hap9.ds) (by have h1 := HOUT.out.2; have h2 := HRL.out; have h3 := HRN.out; have h4 := HBD.out; have h5 := HR.out; omega)
                    have HRR2 := hide hrr
                    have HFF := hide (show OL W2 w4.heap.size v2 (OU2 ++ (ob y).ds) ∧ Grow w4 W2 from ⟨hap2.ol, hgr2 w4 gg9 (Nat.le_refl _)⟩)
                    have HEQ := hide (show OU2 ++ (ob y).ds = fr.map (place res) ++ (res.take (k + 1)).flatMap (fun a => tell (place res) (ob a)) from by
                      rw [HTK.out, HTL.out, hou, HOUT.out.1]
                      simp only [List.append_assoc])
                    have HLE := hide (show (OU2 ++ (ob y).ds).length ≤ 100000 + (k + 1) * 300 from by
                      have h1 := HOUT.out.2
                      have h4 := HBD.out
                      have h5 := HR.out
                      rw [List.length_append]
                      omega)
                    have q8 : wr.cell? ⟨p, 8, none⟩ = some (.slice da (ob y).ds.length dc) := hap9.bl.cell 8
                    clear hrr hap2 hgr2 hap9 gg9 hou hlo hj
                    go_wp2_with (at_builtin; refine wpList_app rfl _ _ 37 rfl (.slice va9 OU2.length vc9) (.slice da (ob y).ds.length dc) v2 _ W2 rfl rfl HRR2.out ?_)
                    go_roundw
                    case rel => exact ⟨k + 1, _, q2, rfl, HEQ.out, HLE.out, HFF.out.1, HFF.out.2⟩
                    case measure => simp [intOf]; omega
                  · have q9 : decide ((j : Int) < R) = true := decide_eq_true (by omega)
                    have q10 : j < R := hjlt
                    have hjl : j < (ob y).rs.length := by rw [HR.out]; exact hjlt
                    have hwj : IntKind.i64.wrap ((j : Int) + 1) = ((j + 1 : Nat) : Int) := (IntWalk.i64_in _ (by have := HBD.out; have := HR.out; omega)).trans (by omega)
                    obtain ⟨ad2, hva2, hcx⟩ := (own_rd hap9.rs).at_ hjl
                    obtain ⟨x, hx⟩ : ∃ x, (ob y).rs.getD j 0 = x := ⟨_, rfl⟩
                    obtain ⟨P, hP⟩ : ∃ P, place res x = P := ⟨_, rfl⟩
                    have htj : ((ob y).rs.take (j + 1)).map (place res) = ((ob y).rs.take j).map (place res) ++ [P] := by
                      rw [List.take_add_one, List.getElem?_eq_getElem hjl, List.map_append, ← hP, ← hx]
                      simp [List.getD_eq_getElem?_getD, hjl]
                    rw [hx] at hcx
                    have HPL := hide (show Calls Tryz.prog 50 #[.slice (some ad) N ac, .int .i64 x] wr fun e w' => e = .returned (.int .i64 P) ∧ wr = w' from hP ▸ rplace_any (HALL.out.grow gg9) (by have := HRL.out; have := HRN.out; omega))
                    have gl := Grow.box wr (.cells (ints [P]).toArray 3)
                    obtain ⟨v2, W2, hrr, hap2, hgr2⟩ := (hap9.grow gl).app (c := 1) (by have h1 := gg9.size; have h2 := gl.size; omega) (own_rd (OL.lit wr [P] (by simp))) (by have h1 := HOUT.out.2; have h2 := HRL.out; have h3 := HRN.out; have h4 := HBD.out; have h5 := HR.out; simp; omega)
                    have HRR2 := hide hrr
                    have HFF := hide (And.intro hap2 (hgr2 w4 (gg9.trans gl) (Nat.le_refl _)))
                    have HEQ := hide (show OU2 ++ [P] = (OUT ++ [-2, C, l, 1]) ++ ((ob y).rs.take (j + 1)).map (place res) from by
                      rw [htj, hou]
                      simp only [List.append_assoc])
                    have q7 : wr.cell? ⟨p, 7, none⟩ = some (.slice ra R rc) := by
                      have : wr.cell? ⟨p, 7, none⟩ = some (.slice ra (ob y).rs.length rc) := hap9.bl.cell 7
                      rwa [HR.out] at this
                    subst hva2
                    clear hrr hap2 hgr2 hap9 gg9 hou hlo hj gl htj hx hP hjl
                    go_wp2_with fail
                    refine HPL.out.mono ?_
                    rintro e w6 ⟨rfl, rfl⟩
                    go_wp2_with (at_builtin; refine wpList_app rfl _ _ 37 rfl (.slice va9 OU2.length vc9) (.slice (some ⟨wr.heap.size, 0, none⟩) 1 1) v2 _ W2 rfl rfl HRR2.out ?_)
                    go_roundw
                    case rel => exact ⟨j + 1, _, q10, rfl, HEQ.out, HFF.out.1, HFF.out.2⟩
                    case measure => simp [intOf]; omega
              | true =>
                have HTL := hide (show tell (place res) (ob y) = [-2, C, l, 3] ++ ((ob y).rs.map (place res) ++ (ob y).ds) from by unfold tell; rw [hC, hl, hf, hd]; rfl)
                have gl := Grow.box w8 (.cells (ints [-2, C, l, 3]).toArray 3)
                obtain ⟨v1, W1, hrr, hap1, hgr1⟩ := (HAPP.out.grow gl).app (c := 4) (by have h1 := HG8.out.size; have h2 := gl.size; omega) (own_rd (OL.lit w8 [-2, C, l, 3] (by simp))) (by have h1 := HOUT.out.2; have h2 := HRL.out; have h3 := HRN.out; simp; omega)
                have hg1 := hgr1 w4 (HG8.out.trans gl) (Nat.le_refl _)
                have HRR := hide hrr
                have q7 : W1.cell? ⟨p, 7, none⟩ = some (.slice ra R rc) := by
                  have : W1.cell? ⟨p, 7, none⟩ = some (.slice ra (ob y).rs.length rc) := hap1.bl.cell 7
                  rwa [hR] at this
                have HAP1 := hide hap1
                have HG1 := hide hg1
                clear hrr hap1 hg1 hgr1 gl hC hl hf hd hR
                go_wp2_with (at_builtin; refine wpList_app rfl _ _ 37 rfl (.slice va LN vc) (.slice (some ⟨w8.heap.size, 0, none⟩) 4 4) v1 _ W1 rfl rfl HRR.out ?_)
                clear q7 q0 q4 q5 q6
                go_loopw [6, 63] (fun u v w9 => ∃ (j : Nat) (OU2 : List Int), j ≤ R ∧ v = .int .i64 j ∧ OU2 = (OUT ++ [-2, C, l, 3]) ++ ((ob y).rs.take j).map (place res) ∧ Ap w9 w4.heap.size p u (.slice ra (ob y).rs.length rc) (.slice da (ob y).ds.length dc) OU2 (ob y) ∧ Grow w4 w9) (fun _ v _ => R - (intOf v).toNat)
                case atStart => exact ⟨0, _, Nat.zero_le _, rfl, by simp, HAP1.out, HG1.out⟩
                case round =>
                  obtain ⟨j, OU2, hj, rfl, hou, hap9, gg9⟩ := hrel
                  have hlo : OU2.length ≤ OUT.length + 4 + j := by rw [hou]; simp; omega
                  obtain ⟨va9, vc9, hv⟩ := own_len hap9.ol
                  subst hv
                  rcases Nat.eq_or_lt_of_le hj with hje | hjlt
                  · subst hje
                    have q9 : decide ((j : Int) < j) = false := by simp
                    rw [List.take_of_length_le (by rw [HR.out]; exact Nat.le_refl _)] at hou
                    obtain ⟨v2, W2, hrr, hap2, hgr2⟩ := hap9.app (c := dc) gg9.size (own_rd hap9.ds) (by have h1 := HOUT.out.2; have h2 := HRL.out; have h3 := HRN.out; have h4 := HBD.out; have h5 := HR.out; omega)
                    have HRR2 := hide hrr
                    have HFF := hide (show OL W2 w4.heap.size v2 (OU2 ++ (ob y).ds) ∧ Grow w4 W2 from ⟨hap2.ol, hgr2 w4 gg9 (Nat.le_refl _)⟩)
                    have HEQ := hide (show OU2 ++ (ob y).ds = fr.map (place res) ++ (res.take (k + 1)).flatMap (fun a => tell (place res) (ob a)) from by
                      rw [HTK.out, HTL.out, hou, HOUT.out.1]
                      simp only [List.append_assoc])
                    have HLE := hide (show (OU2 ++ (ob y).ds).length ≤ 100000 + (k + 1) * 300 from by
                      have h1 := HOUT.out.2
                      have h4 := HBD.out
                      have h5 := HR.out
                      rw [List.length_append]
                      omega)
                    have q8 : wr.cell? ⟨p, 8, none⟩ = some (.slice da (ob y).ds.length dc) := hap9.bl.cell 8
                    clear hrr hap2 hgr2 hap9 gg9 hou hlo hj
                    go_wp2_with (at_builtin; refine wpList_app rfl _ _ 37 rfl (.slice va9 OU2.length vc9) (.slice da (ob y).ds.length dc) v2 _ W2 rfl rfl HRR2.out ?_)
                    go_roundw
                    case rel => exact ⟨k + 1, _, q2, rfl, HEQ.out, HLE.out, HFF.out.1, HFF.out.2⟩
                    case measure => simp [intOf]; omega
                  · have q9 : decide ((j : Int) < R) = true := decide_eq_true (by omega)
                    have q10 : j < R := hjlt
                    have hjl : j < (ob y).rs.length := by rw [HR.out]; exact hjlt
                    have hwj : IntKind.i64.wrap ((j : Int) + 1) = ((j + 1 : Nat) : Int) := (IntWalk.i64_in _ (by have := HBD.out; have := HR.out; omega)).trans (by omega)
                    obtain ⟨ad2, hva2, hcx⟩ := (own_rd hap9.rs).at_ hjl
                    obtain ⟨x, hx⟩ : ∃ x, (ob y).rs.getD j 0 = x := ⟨_, rfl⟩
                    obtain ⟨P, hP⟩ : ∃ P, place res x = P := ⟨_, rfl⟩
                    have htj : ((ob y).rs.take (j + 1)).map (place res) = ((ob y).rs.take j).map (place res) ++ [P] := by
                      rw [List.take_add_one, List.getElem?_eq_getElem hjl, List.map_append, ← hP, ← hx]
                      simp [List.getD_eq_getElem?_getD, hjl]
                    rw [hx] at hcx
                    have HPL := hide (show Calls Tryz.prog 50 #[.slice (some ad) N ac, .int .i64 x] wr fun e w' => e = .returned (.int .i64 P) ∧ wr = w' from hP ▸ rplace_any (HALL.out.grow gg9) (by have := HRL.out; have := HRN.out; omega))
                    have gl := Grow.box wr (.cells (ints [P]).toArray 3)
                    obtain ⟨v2, W2, hrr, hap2, hgr2⟩ := (hap9.grow gl).app (c := 1) (by have h1 := gg9.size; have h2 := gl.size; omega) (own_rd (OL.lit wr [P] (by simp))) (by have h1 := HOUT.out.2; have h2 := HRL.out; have h3 := HRN.out; have h4 := HBD.out; have h5 := HR.out; simp; omega)
                    have HRR2 := hide hrr
                    have HFF := hide (And.intro hap2 (hgr2 w4 (gg9.trans gl) (Nat.le_refl _)))
                    have HEQ := hide (show OU2 ++ [P] = (OUT ++ [-2, C, l, 3]) ++ ((ob y).rs.take (j + 1)).map (place res) from by
                      rw [htj, hou]
                      simp only [List.append_assoc])
                    have q7 : wr.cell? ⟨p, 7, none⟩ = some (.slice ra R rc) := by
                      have : wr.cell? ⟨p, 7, none⟩ = some (.slice ra (ob y).rs.length rc) := hap9.bl.cell 7
                      rwa [HR.out] at this
                    subst hva2
                    clear hrr hap2 hgr2 hap9 gg9 hou hlo hj gl htj hx hP hjl
                    go_wp2_with fail
                    refine HPL.out.mono ?_
                    rintro e w6 ⟨rfl, rfl⟩
                    go_wp2_with (at_builtin; refine wpList_app rfl _ _ 37 rfl (.slice va9 OU2.length vc9) (.slice (some ⟨wr.heap.size, 0, none⟩) 1 1) v2 _ W2 rfl rfl HRR2.out ?_)
                    go_roundw
                    case rel => exact ⟨j + 1, _, q10, rfl, HEQ.out, HFF.out.1, HFF.out.2⟩
                    case measure => simp [intOf]; omega
    · have q1 : decide ((k : Int) < fn) = true := decide_eq_true (by omega)
      have q2 : k < fn := hlt
      have hkl : k < fr.length := by rw [HF.out.1]; exact hlt
      have hw : IntKind.i64.wrap ((k : Int) + 1) = ((k + 1 : Nat) : Int) := (IntWalk.i64_in _ (by have := HFN.out; omega)).trans (by omega)
      obtain ⟨ad, hva, hcx⟩ := (HF.out.grow (HC4.out.trans gg)).at_ hlt
      obtain ⟨x, hx⟩ : ∃ x, fr.getD k 0 = x := ⟨_, rfl⟩
      obtain ⟨P, hP⟩ : ∃ P, place res x = P := ⟨_, rfl⟩
      have htk : (fr.take (k + 1)).map (place res) = (fr.take k).map (place res) ++ [P] := by
        rw [List.take_add_one, List.getElem?_eq_getElem hkl, List.map_append, ← hP, ← hx]
        simp [List.getD_eq_getElem?_getD, hkl]
      rw [hx] at hcx
      have HPL := hide (fun W (c : Grow w4 W) => show Calls Tryz.prog 50 #[.slice aa N ac, .int .i64 x] W fun e w' => e = .returned (.int .i64 P) ∧ W = w' from hP ▸ rplace_any (HALL.out.grow c) (by have := HRL.out; have := HRN.out; omega))
      have hle : ((fr.take k).map (place res)).length ≤ k := by simp; omega
      obtain ⟨OUT, hO⟩ : ∃ OUT, (fr.take k).map (place res) = OUT := ⟨_, rfl⟩
      rw [hO] at ho htk hle
      obtain ⟨va, vc, hv⟩ := own_len ho
      subst hv hva
      have gl := Grow.box wr (.cells (ints [P]).toArray 3)
      obtain ⟨v', W', hrr, ho', cg, -⟩ := app_more (c0 := 1) (gg.trans gl) (ho.grow gl) (own_rd (OL.lit wr [P] (by simp))) (by have := HFN.out; simp; omega)
      have HRR := hide hrr
      have HFF := hide (show OL W' w4.heap.size v' ((fr.take (k + 1)).map (place res)) ∧ Grow w4 W' from ⟨by rw [htk]; exact ho', cg⟩)
      have HG := hide gg
      clear hrr ho' cg gl ho gg htk hle hkl hx hO hP hk
      go_wp2_with fail
      refine (HPL.out _ HG.out).mono ?_
      rintro e w6 ⟨rfl, rfl⟩
      go_wp2_with (at_builtin; refine wpList_app rfl _ _ 37 rfl (.slice va OUT.length vc) (.slice (some ⟨wr.heap.size, 0, none⟩) 1 1) v' _ W' rfl rfl HRR.out ?_)
      go_roundw
      case rel => exact ⟨k + 1, q2, rfl, HFF.out.1, HFF.out.2⟩
      case measure => simp [intOf]; omega
end
end Go.Proofs.YtogfjclmohpjkaaGreatDoor.L15
