/- Reference processing: what Run answers. Conditions: at most 1000000 roots, fewer than 1000000 nodes; the passed function's calls only make memory. -/
import Derived.Test.YtjfpjnhlnoiekaaGreatL13B
namespace Go.Proofs.YtjfpjnhlnoiekaaGreat.L13
open Go.ChangeShapes Go.WideShapes Go.ChangeAt Go.RowKit Go.Maps
open Go.Proofs.YtjfpjnhlnoiekaaGreat.L9 (Nd nd Srt In64 GS Mn pt ptr hldX aimX nd_some nd_none nd_mem own_rd own_cast wpList_app hasB hasB_step)
open Go.Proofs.YtjfpjnhlnoiekaaGreat.L10 (Rc IsRc outs clL fins fnB srcC clL_srt put OL ol_nil app_more take_step clL_step clL_le reach_any)
open Go.Proofs.YtjfpjnhlnoiekaaGreat.L5 (Cl clAt isRf)
set_option linter.unusedVariables false
abbrev no : Int → Bool := fun _ => false
section
variable {cs : List Cl} {L : List Nd} {K p q r : Int → Bool} {zs : List Int} {i : Int}
theorem to_e1 : toC cs L p no [3, 4] = e1 cs L p := by
  funext i
  unfold toC e1 sw
  simp
theorem to_e2 : toC cs L q (un no (e1 cs L p)) [3, 4] = e2 cs L p q := by
  funext i
  unfold toC e2 sw un
  simp
theorem to_e3 : toC cs L q (un (un no (e1 cs L p)) (e2 cs L p q)) [5] = e3 cs L q := by
  funext i
  unfold toC e3 un
  by_cases h : (aimX cs L i).2 = 5
  · have h1 : e1 cs L p i = false := by unfold e1 sw; simp [h]
    have h2 : e2 cs L p q i = false := by unfold e2 sw; simp [h]
    simp [h1, h2, h]
  · simp [h]
theorem un_p2 (h : Rs cs L K zs p q) (hs : Srt L) (hr : IsRc cs L 1 (clL L (fi L p)) r) : un p r = q := by
  funext i
  rw [Bool.eq_iff_iff]
  unfold un
  rw [Bool.or_eq_true_iff]
  constructor
  · rintro (e | e)
    · exact h.up hs e
    · refine (h.b i).2 ?_
      exact ((hr i).1 e).mono (fun j hj hn => .st (List.mem_append_right _ hj) hn) fun _ _ h => h
  · intro e
    rcases h.new hs e with e | e
    · exact .inl e
    · exact .inr ((hr i).2 e)
theorem cl_in64 (hok : ∀ x ∈ L, x.Ok cs) (t : Int → Bool) : ∀ i ∈ clL L t, In64 i := by
  intro i hi
  unfold clL at hi
  obtain ⟨x, hx, rfl⟩ := List.mem_map.1 hi
  exact (hok x (List.mem_filter.1 hx).1).id2
end
section
variable {w W W' : World} {pg z : Nat} {S : Nat → Prop} {cs : List Cl} {L : List Nd} {K p1 p2 : Int → Bool} {zs : List Int} {a : Option Addr} {n cc : Nat} {fid : Nat} {lb : Array Value}
theorem Rw.of {z' : Nat} {wv v : Value} {xs : List Int} (h : OL W z' v xs) (k : ∀ k, wv.ownBlock = some k → v.ownBlock ≠ some k) : Rw W z' wv v xs := ⟨h, k⟩
/-- What Run answers. -/
def Ran (w : World) (cs : List Cl) (L : List Nd) (p1 p2 : Int → Bool) (e : Ending) (w' : World) : Prop :=
  ∃ a1 c1 a2 c2 a3 c3, e = .returned (.agg #[.slice a1 (clL L p2).length c1, .slice a2 (ces cs L p1 p2).length c2, .slice a3 (clL L (fi L p1)).length c3]) ∧
    OL w' w.heap.size (.slice a1 (clL L p2).length c1) (clL L p2) ∧ OL w' w.heap.size (.slice a2 (ces cs L p1 p2).length c2) (ces cs L p1 p2) ∧ OL w' w.heap.size (.slice a3 (clL L (fi L p1)).length c3) (clL L (fi L p1)) ∧ Grow w w'
set_option maxRecDepth 100000 in
set_option maxHeartbeats 8000000 in
theorem run_nil (hg : GS w z S pg cs L) (hl : L.length < 1000000) (hz : L1.Rd w a n zs) (hn : n ≤ 1000000) (hi : ∀ i ∈ zs, In64 i) (hR : Rs cs L no zs p1 p2) :
    Calls Tryz.prog 6 #[ptr pg, .nilFunc, .slice a n cc] w (Ran w cs L p1 p2) := by
  have HSR := hide hg.srt
  have HOK := hide (show ∀ x ∈ L, x.Ok cs from fun x hx => hg.ok hx)
  have HL := hide hl
  have HRS := hide hR
  have HQ1 := hide (show ∀ i, p1 i = true → nd L i ≠ none from fun i hi => hR.n1 hi)
  have HQ2 := hide (show ∀ i, p2 i = true → nd L i ≠ none from fun i hi => hR.n2 hi)
  have gA := Grow.box w (.cells [.slice none 0 0, .slice none 0 0, .slice none 0 0].toArray 35)
  have HBR := hide (Blk.new w 35 [.slice none 0 0, .slice none 0 0, .slice none 0 0])
  have HLO := hide (look_any (hg.grow gA) hl)
  have HGS := hide (hg.grow gA)
  have HWA := hide gA
  have HZ := hide (L9.L1.Rd.chg hz gA fun _ _ => id)
  have HN := hide (And.intro hn hi)
  clear hg hl hz hn hi hR gA
  go_enter Tryz.func6, Tryz.ntmps6
  go_wp2_with fail
  generalize w.alloc (.cells #[.slice none 0 0, .slice none 0 0, .slice none 0 0] 35) = wA at *
  obtain ⟨rb, hrb⟩ : ∃ rb, w.heap.size = rb := ⟨_, rfl⟩
  rw [hrb] at HBR ⊢
  have HRB := hide hrb
  clear hrb
  refine HLO.out.mono ?_
  rintro e W1 ⟨s, m, f, ia, ic, rfl, hs1⟩
  obtain ⟨r, hr⟩ := L10.ex_rc cs L 1 zs
  have hp1 : un no r = p1 := by
    have h1 : IsKc cs L no zs r := fun i => by
      rw [hr i]
      exact ⟨Rc.toKc, Kc.toRc⟩
    have h2 := h1.eq HRS.out.a
    rw [← h2]
    funext i
    simp [un]
  have HEN := hide (enliven_any (n := n) (cc := cc) hs1 HGS.out HL.out (L9.L1.Rd.chg HZ.out hs1.gw fun _ _ => id) HN.out.1 HN.out.2 hr)
  rw [hp1] at HEN
  clear hs1 hr hp1 HLO
  go_wp2_with fail
  refine HEN.out.mono ?_
  rintro e W2 ⟨rfl, wv, hs2, -, -⟩
  generalize wn cs L no r no = wq2 at *
  have HS := hide hs2
  have hne : ∀ W, (binOp .neq 40 .nilFunc .nilFunc).run Tryz.prog W = .ok (.bool false) W := fun W => by kernel_rfl
  clear hs2 HEN
  go_wp2_with fail
  clear hne
  have gB := Grow.box W2 (.cells [.int .i64 3, .int .i64 4].toArray 3)
  have hrd : L1.Rd (W2.alloc (.cells [.int .i64 3, .int .i64 4].toArray 3)) (some ⟨W2.heap.size, 0, none⟩) 2 [3, 4] := L1.Rd.of_blk (Blk.new W2 3 [.int .i64 3, .int .i64 4]) rfl
  have HCL := hide (clear_any (n := 2) (cc := 2) (ks := [3, 4]) (HS.out.grow gB) HGS.out HL.out hrd (by omega) HQ1.out)
  rw [to_e1] at HCL
  have HG2 := hide gB
  clear gB hrd
  go_wp2_with fail
  refine HCL.out.mono ?_
  rintro e W3 ⟨ra, rc, rfl, hs3, hc3, ho3, hap3⟩
  have HE := hide ((Rw.of ho3 hap3).lower (show w.heap.size ≤ _ from by have := HG2.out.size; have := HS.out.gw.size; have := HWA.out.size; omega))
  have HS3 := hide hs3
  clear hs3 hc3 ho3 hap3 HCL HG2 HS
  obtain ⟨M1, hM1⟩ : ∃ M1, (clL L (e1 cs L p1)).length = M1 := ⟨_, rfl⟩
  have HM1 := hide hM1
  rw [hM1] at HE ⊢
  clear hM1
  have HWH := hide (which_by (fid := 29) (lb := #[]) (P := fi L p1) (enters_of Tryz.func29 (by kernel_rfl) rfl) HS3.out HOK.out HL.out fun W' x b g hx hb => run1_any (HS3.out.grow g) HSR.out hx hb)
  obtain ⟨M2, hM2⟩ : ∃ M2, (clL L (fi L p1)).length = M2 := ⟨_, rfl⟩
  have HM2 := hide hM2
  rw [hM2] at HWH
  clear hM2
  go_wp2_with fail
  refine HWH.out.mono ?_
  rintro e W4 ⟨fa, fc, rfl, ho4, g4⟩
  have HE4 := hide (HE.out.grow g4)
  have HF4 := hide ((Rw.new HS3.out ho4).lower (show w.heap.size ≤ _ from by have := HS3.out.gw.size; have := HWA.out.size; omega))
  have HS4 := hide (HS3.out.grow g4)
  clear ho4 g4 HWH HE HS3
  obtain ⟨r2, hr2⟩ := L10.ex_rc cs L 1 (clL L (fi L p1))
  have HU := hide (un_p2 HRS.out HSR.out hr2)
  have HEN := hide (enliven_any (n := M2) (cc := fc) HS4.out HGS.out HL.out (own_rd (own_cast HF4.out.1 HM2.out)) (by have h1 := clL_le L (fi L p1); have h2 := HL.out; have h3 := HM2.out; omega) (cl_in64 HOK.out _) hr2)
  rw [HU.out] at HEN
  clear hr2 HU
  go_wp2_with fail
  refine HEN.out.mono ?_
  rintro e W5 ⟨rfl, wv5, hs5, hc5, ho5⟩
  have HE5 := hide (HE4.out.tch HS4.out hc5 ho5)
  have HF5 := hide (HF4.out.tch HS4.out hc5 ho5)
  have HS5 := hide hs5
  clear hs5 hc5 ho5 HEN HE4 HF4 HS4
  generalize wn cs L p1 r2 _ = wq5 at *
  have gB := Grow.box W5 (.cells [.int .i64 3, .int .i64 4].toArray 3)
  have hrd : L1.Rd (W5.alloc (.cells [.int .i64 3, .int .i64 4].toArray 3)) (some ⟨W5.heap.size, 0, none⟩) 2 [3, 4] := L1.Rd.of_blk (Blk.new W5 3 [.int .i64 3, .int .i64 4]) rfl
  have HCL := hide (clear_any (n := 2) (cc := 2) (ks := [3, 4]) (HS5.out.grow gB) HGS.out HL.out hrd (by omega) HQ2.out)
  rw [to_e2] at HCL
  have HE5b := hide (HE5.out.grow gB)
  have HF5b := hide (HF5.out.grow gB)
  have HS5b := hide (HS5.out.grow gB)
  clear gB hrd HE5 HF5 HS5
  go_wp2_with fail
  refine HCL.out.mono ?_
  rintro e W6 ⟨ta, tc, rfl, hs6, hc6, ho6, hap6⟩
  have HE6 := hide (HE5b.out.tch HS5b.out hc6 fun _ h => .inl h)
  have HF6 := hide (HF5b.out.tch HS5b.out hc6 fun _ h => .inl h)
  have HT6 := hide ((Rw.of ho6 hap6).lower (show w.heap.size ≤ _ from by have := HS5b.out.gw.size; have := HWA.out.size; omega))
  have HS6 := hide hs6
  clear hs6 hc6 ho6 hap6 HCL HE5b HF5b HS5b
  obtain ⟨M3, hM3⟩ : ∃ M3, (clL L (e2 cs L p1 p2)).length = M3 := ⟨_, rfl⟩
  have HM3 := hide hM3
  rw [hM3] at HT6 ⊢
  clear hM3
  have gB := Grow.box W6 (.cells [.int .i64 5].toArray 3)
  have hrd : L1.Rd (W6.alloc (.cells [.int .i64 5].toArray 3)) (some ⟨W6.heap.size, 0, none⟩) 1 [5] := L1.Rd.of_blk (Blk.new W6 3 [.int .i64 5]) rfl
  have HCL := hide (clear_any (n := 1) (cc := 1) (ks := [5]) (HS6.out.grow gB) HGS.out HL.out hrd (by omega) HQ2.out)
  rw [to_e3] at HCL
  have HE6b := hide (HE6.out.grow gB)
  have HF6b := hide (HF6.out.grow gB)
  have HT6b := hide (HT6.out.grow gB)
  have HS6b := hide (HS6.out.grow gB)
  clear gB hrd HE6 HF6 HT6 HS6
  go_wp2_with fail
  refine HCL.out.mono ?_
  rintro e W7 ⟨la, lc, rfl, hs7, hc7, ho7, hap7⟩
  have HE7 := hide (HE6b.out.tch HS6b.out hc7 fun _ h => .inl h)
  have HF7 := hide (HF6b.out.tch HS6b.out hc7 fun _ h => .inl h)
  have HT7 := hide (HT6b.out.tch HS6b.out hc7 fun _ h => .inl h)
  have HP7 := hide ((Rw.of ho7 hap7).lower (show w.heap.size ≤ _ from by have := HS6b.out.gw.size; have := HWA.out.size; omega))
  have HS7 := hide hs7
  clear hs7 hc7 ho7 hap7 HCL HE6b HF6b HT6b HS6b
  obtain ⟨M4, hM4⟩ : ∃ M4, (clL L (e3 cs L p2)).length = M4 := ⟨_, rfl⟩
  have HM4 := hide hM4
  rw [hM4] at HP7 ⊢
  clear hM4
  have HWH := hide (which_by (fid := 30) (lb := #[]) (P := p2) (enters_of Tryz.func30 (by kernel_rfl) rfl) HS7.out HOK.out HL.out fun W' x b g hx hb => run2_any (HS7.out.grow g) hx hb)
  obtain ⟨M5, hM5⟩ : ∃ M5, (clL L p2).length = M5 := ⟨_, rfl⟩
  have HM5 := hide hM5
  rw [hM5] at HWH
  clear hM5
  go_wp2_with fail
  refine HWH.out.mono ?_
  rintro e W8 ⟨va, vc, rfl, ho8, g8⟩
  have HV8 := hide ((Rw.new HS7.out ho8).lower (show w.heap.size ≤ _ from by have := HS7.out.gw.size; have := HWA.out.size; omega))
  have HE8 := hide (HE7.out.grow g8)
  have HF8 := hide (HF7.out.grow g8)
  have HT8 := hide (HT7.out.grow g8)
  have HP8 := hide (HP7.out.grow g8)
  have HG8 := hide (HS7.out.gw.trans g8)
  clear ho8 g8 HWH HE7 HF7 HT7 HP7 HS7
  have gB := Grow.box W8 (.cells [.slice ra M1 rc, .slice ta M3 tc, .slice la M4 lc].toArray 27)
  have HCC := hide (concat3 (Blk.new W8 27 [.slice ra M1 rc, .slice ta M3 tc, .slice la M4 lc]) (own_rd (own_cast (HE8.out.grow gB).1 HM1.out)) (own_rd (own_cast (HT8.out.grow gB).1 HM3.out)) (own_rd (own_cast (HP8.out.grow gB).1 HM4.out)) (by
    have h1 := clL_le L (e1 cs L p1); have h2 := clL_le L (e2 cs L p1 p2); have h3 := clL_le L (e3 cs L p2); have := HM1.out; have := HM3.out; have := HM4.out; have := HL.out; omega))
  have HV9 := hide (HV8.out.grow gB)
  have HF9 := hide (HF8.out.grow gB)
  have HG9 := hide (HG8.out.trans gB)
  clear gB HV8 HE8 HF8 HT8 HP8 HG8
  go_wp2_with fail
  refine HCC.out.mono ?_
  rintro e W9 ⟨vv, rfl, ho9, g9⟩
  obtain ⟨ca, cc9, rfl⟩ := own_len ho9
  obtain ⟨M6, hM6⟩ : ∃ M6, (ces cs L p1 p2).length = M6 := ⟨_, rfl⟩
  have ho10 : OL W9 w.heap.size (.slice ca (ces cs L p1 p2).length cc9) (ces cs L p1 p2) := ho9.lower (show w.heap.size ≤ _ from by have := HG9.out.size; have := HWA.out.size; omega)
  have hM6' : (clL L (e1 cs L p1) ++ clL L (e2 cs L p1 p2) ++ clL L (e3 cs L p2)).length = M6 := hM6
  rw [hM6] at ho10
  rw [hM6']
  have HM6 := hide hM6
  have hb9 := HBR.out.chg (HG9.out.trans g9) id
  have r0 := hb9.cell 0
  have r1 := hb9.cell 1
  have r2 := hb9.cell 2
  have f0 := hb9.frozen 0
  have f1 := hb9.frozen 1
  have f2 := hb9.frozen 2
  have HO9 := hide ho10
  have HB9 := hide hb9
  have HGA := hide (HG9.out.trans g9)
  have HV := hide (HV9.out.grow g9)
  have HF := hide (HF9.out.grow g9)
  clear ho9 ho10 hM6 hM6' hb9 g9 HCC HV9 HF9 HG9
  go_wp2_with fail
  have hbF : Blk (((W9.setCell ⟨rb, 0, none⟩ (.slice va M5 vc)).setCell ⟨rb, 1, none⟩ (.slice ca M6 cc9)).setCell ⟨rb, 2, none⟩ (.slice fa M2 fc)) rb 35 [.slice va M5 vc, .slice ca M6 cc9, .slice fa M2 fc] := ((HB9.out.set_ 0 _).set_ 1 _).set_ 2 _
  have hcF : Chg (· = rb) W9 (((W9.setCell ⟨rb, 0, none⟩ (.slice va M5 vc)).setCell ⟨rb, 1, none⟩ (.slice ca M6 cc9)).setCell ⟨rb, 2, none⟩ (.slice fa M2 fc)) := (((Chg.refl _ _).set1 0 _).set1 1 _).set1 2 _
  generalize ((W9.setCell ⟨rb, 0, none⟩ (.slice va M5 vc)).setCell ⟨rb, 1, none⟩ (.slice ca M6 cc9)).setCell ⟨rb, 2, none⟩ (.slice fa M2 fc) = WF at *
  have s0 := hbF.cell 0
  have s1 := hbF.cell 1
  have s2 := hbF.cell 2
  refine bodyPost_ret (v := .agg #[.slice va M5 vc, .slice ca M6 cc9, .slice fa M2 fc]) (by simp [results, Tryz.results6, go_sem, s0, s1, s2]) rfl ?_
  have e2 := HM2.out
  have e5 := HM5.out
  have e6 := HM6.out
  subst e2 e5 e6
  exact ⟨va, vc, ca, cc9, fa, fc, rfl, HV.out.1.chg hcF fun k hk e => HV.out.1.ne HB9.out (by decide) (by rw [← e]; exact hk), HO9.out.chg hcF fun k hk e => HO9.out.ne HB9.out (by decide) (by rw [← e]; exact hk), HF.out.1.chg hcF fun k hk e => HF.out.1.ne HB9.out (by decide) (by rw [← e]; exact hk),
    (HWA.out.trans HGA.out).step hcF fun k hk e => by have := HRB.out; omega⟩
set_option maxRecDepth 100000 in
set_option maxHeartbeats 8000000 in
theorem run_keep (eg : ∀ args w, (callFunc fid args).run Tryz.prog w = .ok (.enter fid args) w) (hk : Keeps w L K fid lb) (hg : GS w z S pg cs L) (hl : L.length < 1000000) (hz : L1.Rd w a n zs) (hn : n ≤ 1000000) (hi : ∀ i ∈ zs, In64 i) (hR : Rs cs L K zs p1 p2) :
    Calls Tryz.prog 6 #[ptr pg, .func (.func fid) #[] lb, .slice a n cc] w (Ran w cs L p1 p2) := by
  have HSR := hide hg.srt
  have HOK := hide (show ∀ x ∈ L, x.Ok cs from fun x hx => hg.ok hx)
  have HL := hide hl
  have HRS := hide hR
  have HQ1 := hide (show ∀ i, p1 i = true → nd L i ≠ none from fun i hi => hR.n1 hi)
  have HQ2 := hide (show ∀ i, p2 i = true → nd L i ≠ none from fun i hi => hR.n2 hi)
  have gA := Grow.box w (.cells [.slice none 0 0, .slice none 0 0, .slice none 0 0].toArray 35)
  have HBR := hide (Blk.new w 35 [.slice none 0 0, .slice none 0 0, .slice none 0 0])
  have HLO := hide (look_any (hg.grow gA) hl)
  have HGS := hide (hg.grow gA)
  have HWA := hide gA
  have HZ := hide (L9.L1.Rd.chg hz gA fun _ _ => id)
  have HN := hide (And.intro hn hi)
  have HKP := hide (show Keeps (w.alloc (.cells [.slice none 0 0, .slice none 0 0, .slice none 0 0].toArray 35)) L K fid lb from fun W i c a n ca b m cb fn g hn => hk W i c a n ca b m cb fn (gA.trans g) hn)
  clear hg hl hz hn hi hR gA hk
  go_enter Tryz.func6, Tryz.ntmps6
  go_wp2_with fail
  generalize w.alloc (.cells #[.slice none 0 0, .slice none 0 0, .slice none 0 0] 35) = wA at *
  obtain ⟨rb, hrb⟩ : ∃ rb, w.heap.size = rb := ⟨_, rfl⟩
  rw [hrb] at HBR ⊢
  have HRB := hide hrb
  clear hrb
  refine HLO.out.mono ?_
  rintro e W1 ⟨s, m, f, ia, ic, rfl, hs1⟩
  obtain ⟨r, hr⟩ := L10.ex_rc cs L 1 zs
  have HEN := hide (enliven_any (n := n) (cc := cc) hs1 HGS.out HL.out (L9.L1.Rd.chg HZ.out hs1.gw fun _ _ => id) HN.out.1 HN.out.2 hr)
  have HAK := hide (Ak.start (K := K) hr)
  clear hs1 hr HLO
  go_wp2_with fail
  refine HEN.out.mono ?_
  rintro e WB ⟨rfl, wvb, hsb, -, -⟩
  have hne : ∀ W, (binOp .neq 40 (.func (.func fid) #[] lb) .nilFunc).run Tryz.prog W = .ok (.bool true) W := fun W => by kernel_rfl
  have HAS := hide (ask_any eg HGS.out HL.out (gm := lft L (un no r) (wn cs L no r no)) ⟨_, _, wvb, hsb, HAK.out, fun i hi => (by simp only [wn, Bool.false_or, Bool.and_eq_true, decide_eq_true_eq] at hi; exact hi.2.2), Nat.le_refl _⟩ HKP.out)
  clear hsb HEN HAK
  go_wp2_with fail
  clear hne
  refine HAS.out.mono ?_
  rintro e W2 ⟨rfl, q, wq2, wv, hs2, hq2⟩
  have hp1 : p1 = q := HRS.out.a.eq hq2
  subst hp1
  have HS := hide hs2
  clear hs2 hq2 HAS
  go_wp2_with fail
  have gB := Grow.box W2 (.cells [.int .i64 3, .int .i64 4].toArray 3)
  have hrd : L1.Rd (W2.alloc (.cells [.int .i64 3, .int .i64 4].toArray 3)) (some ⟨W2.heap.size, 0, none⟩) 2 [3, 4] := L1.Rd.of_blk (Blk.new W2 3 [.int .i64 3, .int .i64 4]) rfl
  have HCL := hide (clear_any (n := 2) (cc := 2) (ks := [3, 4]) (HS.out.grow gB) HGS.out HL.out hrd (by omega) HQ1.out)
  rw [to_e1] at HCL
  have HG2 := hide gB
  clear gB hrd
  go_wp2_with fail
  refine HCL.out.mono ?_
  rintro e W3 ⟨ra, rc, rfl, hs3, hc3, ho3, hap3⟩
  have HE := hide ((Rw.of ho3 hap3).lower (show w.heap.size ≤ _ from by have := HG2.out.size; have := HS.out.gw.size; have := HWA.out.size; omega))
  have HS3 := hide hs3
  clear hs3 hc3 ho3 hap3 HCL HG2 HS
  obtain ⟨M1, hM1⟩ : ∃ M1, (clL L (e1 cs L p1)).length = M1 := ⟨_, rfl⟩
  have HM1 := hide hM1
  rw [hM1] at HE ⊢
  clear hM1
  have HWH := hide (which_by (fid := 29) (lb := #[]) (P := fi L p1) (enters_of Tryz.func29 (by kernel_rfl) rfl) HS3.out HOK.out HL.out fun W' x b g hx hb => run1_any (HS3.out.grow g) HSR.out hx hb)
  obtain ⟨M2, hM2⟩ : ∃ M2, (clL L (fi L p1)).length = M2 := ⟨_, rfl⟩
  have HM2 := hide hM2
  rw [hM2] at HWH
  clear hM2
  go_wp2_with fail
  refine HWH.out.mono ?_
  rintro e W4 ⟨fa, fc, rfl, ho4, g4⟩
  have HE4 := hide (HE.out.grow g4)
  have HF4 := hide ((Rw.new HS3.out ho4).lower (show w.heap.size ≤ _ from by have := HS3.out.gw.size; have := HWA.out.size; omega))
  have HS4 := hide (HS3.out.grow g4)
  clear ho4 g4 HWH HE HS3
  obtain ⟨r2, hr2⟩ := L10.ex_rc cs L 1 (clL L (fi L p1))
  have HU := hide (un_p2 HRS.out HSR.out hr2)
  have HEN := hide (enliven_any (n := M2) (cc := fc) HS4.out HGS.out HL.out (own_rd (own_cast HF4.out.1 HM2.out)) (by have h1 := clL_le L (fi L p1); have h2 := HL.out; have h3 := HM2.out; omega) (cl_in64 HOK.out _) hr2)
  rw [HU.out] at HEN
  clear hr2 HU
  go_wp2_with fail
  refine HEN.out.mono ?_
  rintro e W5 ⟨rfl, wv5, hs5, hc5, ho5⟩
  have HE5 := hide (HE4.out.tch HS4.out hc5 ho5)
  have HF5 := hide (HF4.out.tch HS4.out hc5 ho5)
  have HS5 := hide hs5
  clear hs5 hc5 ho5 HEN HE4 HF4 HS4
  generalize wn cs L p1 r2 _ = wq5 at *
  have gB := Grow.box W5 (.cells [.int .i64 3, .int .i64 4].toArray 3)
  have hrd : L1.Rd (W5.alloc (.cells [.int .i64 3, .int .i64 4].toArray 3)) (some ⟨W5.heap.size, 0, none⟩) 2 [3, 4] := L1.Rd.of_blk (Blk.new W5 3 [.int .i64 3, .int .i64 4]) rfl
  have HCL := hide (clear_any (n := 2) (cc := 2) (ks := [3, 4]) (HS5.out.grow gB) HGS.out HL.out hrd (by omega) HQ2.out)
  rw [to_e2] at HCL
  have HE5b := hide (HE5.out.grow gB)
  have HF5b := hide (HF5.out.grow gB)
  have HS5b := hide (HS5.out.grow gB)
  clear gB hrd HE5 HF5 HS5
  go_wp2_with fail
  refine HCL.out.mono ?_
  rintro e W6 ⟨ta, tc, rfl, hs6, hc6, ho6, hap6⟩
  have HE6 := hide (HE5b.out.tch HS5b.out hc6 fun _ h => .inl h)
  have HF6 := hide (HF5b.out.tch HS5b.out hc6 fun _ h => .inl h)
  have HT6 := hide ((Rw.of ho6 hap6).lower (show w.heap.size ≤ _ from by have := HS5b.out.gw.size; have := HWA.out.size; omega))
  have HS6 := hide hs6
  clear hs6 hc6 ho6 hap6 HCL HE5b HF5b HS5b
  obtain ⟨M3, hM3⟩ : ∃ M3, (clL L (e2 cs L p1 p2)).length = M3 := ⟨_, rfl⟩
  have HM3 := hide hM3
  rw [hM3] at HT6 ⊢
  clear hM3
  have gB := Grow.box W6 (.cells [.int .i64 5].toArray 3)
  have hrd : L1.Rd (W6.alloc (.cells [.int .i64 5].toArray 3)) (some ⟨W6.heap.size, 0, none⟩) 1 [5] := L1.Rd.of_blk (Blk.new W6 3 [.int .i64 5]) rfl
  have HCL := hide (clear_any (n := 1) (cc := 1) (ks := [5]) (HS6.out.grow gB) HGS.out HL.out hrd (by omega) HQ2.out)
  rw [to_e3] at HCL
  have HE6b := hide (HE6.out.grow gB)
  have HF6b := hide (HF6.out.grow gB)
  have HT6b := hide (HT6.out.grow gB)
  have HS6b := hide (HS6.out.grow gB)
  clear gB hrd HE6 HF6 HT6 HS6
  go_wp2_with fail
  refine HCL.out.mono ?_
  rintro e W7 ⟨la, lc, rfl, hs7, hc7, ho7, hap7⟩
  have HE7 := hide (HE6b.out.tch HS6b.out hc7 fun _ h => .inl h)
  have HF7 := hide (HF6b.out.tch HS6b.out hc7 fun _ h => .inl h)
  have HT7 := hide (HT6b.out.tch HS6b.out hc7 fun _ h => .inl h)
  have HP7 := hide ((Rw.of ho7 hap7).lower (show w.heap.size ≤ _ from by have := HS6b.out.gw.size; have := HWA.out.size; omega))
  have HS7 := hide hs7
  clear hs7 hc7 ho7 hap7 HCL HE6b HF6b HT6b HS6b
  obtain ⟨M4, hM4⟩ : ∃ M4, (clL L (e3 cs L p2)).length = M4 := ⟨_, rfl⟩
  have HM4 := hide hM4
  rw [hM4] at HP7 ⊢
  clear hM4
  have HWH := hide (which_by (fid := 30) (lb := #[]) (P := p2) (enters_of Tryz.func30 (by kernel_rfl) rfl) HS7.out HOK.out HL.out fun W' x b g hx hb => run2_any (HS7.out.grow g) hx hb)
  obtain ⟨M5, hM5⟩ : ∃ M5, (clL L p2).length = M5 := ⟨_, rfl⟩
  have HM5 := hide hM5
  rw [hM5] at HWH
  clear hM5
  go_wp2_with fail
  refine HWH.out.mono ?_
  rintro e W8 ⟨va, vc, rfl, ho8, g8⟩
  have HV8 := hide ((Rw.new HS7.out ho8).lower (show w.heap.size ≤ _ from by have := HS7.out.gw.size; have := HWA.out.size; omega))
  have HE8 := hide (HE7.out.grow g8)
  have HF8 := hide (HF7.out.grow g8)
  have HT8 := hide (HT7.out.grow g8)
  have HP8 := hide (HP7.out.grow g8)
  have HG8 := hide (HS7.out.gw.trans g8)
  clear ho8 g8 HWH HE7 HF7 HT7 HP7 HS7
  have gB := Grow.box W8 (.cells [.slice ra M1 rc, .slice ta M3 tc, .slice la M4 lc].toArray 27)
  have HCC := hide (concat3 (Blk.new W8 27 [.slice ra M1 rc, .slice ta M3 tc, .slice la M4 lc]) (own_rd (own_cast (HE8.out.grow gB).1 HM1.out)) (own_rd (own_cast (HT8.out.grow gB).1 HM3.out)) (own_rd (own_cast (HP8.out.grow gB).1 HM4.out)) (by
    have h1 := clL_le L (e1 cs L p1); have h2 := clL_le L (e2 cs L p1 p2); have h3 := clL_le L (e3 cs L p2); have := HM1.out; have := HM3.out; have := HM4.out; have := HL.out; omega))
  have HV9 := hide (HV8.out.grow gB)
  have HF9 := hide (HF8.out.grow gB)
  have HG9 := hide (HG8.out.trans gB)
  clear gB HV8 HE8 HF8 HT8 HP8 HG8
  go_wp2_with fail
  refine HCC.out.mono ?_
  rintro e W9 ⟨vv, rfl, ho9, g9⟩
  obtain ⟨ca, cc9, rfl⟩ := own_len ho9
  obtain ⟨M6, hM6⟩ : ∃ M6, (ces cs L p1 p2).length = M6 := ⟨_, rfl⟩
  have ho10 : OL W9 w.heap.size (.slice ca (ces cs L p1 p2).length cc9) (ces cs L p1 p2) := ho9.lower (show w.heap.size ≤ _ from by have := HG9.out.size; have := HWA.out.size; omega)
  have hM6' : (clL L (e1 cs L p1) ++ clL L (e2 cs L p1 p2) ++ clL L (e3 cs L p2)).length = M6 := hM6
  rw [hM6] at ho10
  rw [hM6']
  have HM6 := hide hM6
  have hb9 := HBR.out.chg (HG9.out.trans g9) id
  have r0 := hb9.cell 0
  have r1 := hb9.cell 1
  have r2 := hb9.cell 2
  have f0 := hb9.frozen 0
  have f1 := hb9.frozen 1
  have f2 := hb9.frozen 2
  have HO9 := hide ho10
  have HB9 := hide hb9
  have HGA := hide (HG9.out.trans g9)
  have HV := hide (HV9.out.grow g9)
  have HF := hide (HF9.out.grow g9)
  clear ho9 ho10 hM6 hM6' hb9 g9 HCC HV9 HF9 HG9
  go_wp2_with fail
  have hbF : Blk (((W9.setCell ⟨rb, 0, none⟩ (.slice va M5 vc)).setCell ⟨rb, 1, none⟩ (.slice ca M6 cc9)).setCell ⟨rb, 2, none⟩ (.slice fa M2 fc)) rb 35 [.slice va M5 vc, .slice ca M6 cc9, .slice fa M2 fc] := ((HB9.out.set_ 0 _).set_ 1 _).set_ 2 _
  have hcF : Chg (· = rb) W9 (((W9.setCell ⟨rb, 0, none⟩ (.slice va M5 vc)).setCell ⟨rb, 1, none⟩ (.slice ca M6 cc9)).setCell ⟨rb, 2, none⟩ (.slice fa M2 fc)) := (((Chg.refl _ _).set1 0 _).set1 1 _).set1 2 _
  generalize ((W9.setCell ⟨rb, 0, none⟩ (.slice va M5 vc)).setCell ⟨rb, 1, none⟩ (.slice ca M6 cc9)).setCell ⟨rb, 2, none⟩ (.slice fa M2 fc) = WF at *
  have s0 := hbF.cell 0
  have s1 := hbF.cell 1
  have s2 := hbF.cell 2
  refine bodyPost_ret (v := .agg #[.slice va M5 vc, .slice ca M6 cc9, .slice fa M2 fc]) (by simp [results, Tryz.results6, go_sem, s0, s1, s2]) rfl ?_
  have e2 := HM2.out
  have e5 := HM5.out
  have e6 := HM6.out
  subst e2 e5 e6
  exact ⟨va, vc, ca, cc9, fa, fc, rfl, HV.out.1.chg hcF fun k hk e => HV.out.1.ne HB9.out (by decide) (by rw [← e]; exact hk), HO9.out.chg hcF fun k hk e => HO9.out.ne HB9.out (by decide) (by rw [← e]; exact hk), HF.out.1.chg hcF fun k hk e => HF.out.1.ne HB9.out (by decide) (by rw [← e]; exact hk),
    (HWA.out.trans HGA.out).step hcF fun k hk e => by have := HRB.out; omega⟩
end
end Go.Proofs.YtjfpjnhlnoiekaaGreat.L13
