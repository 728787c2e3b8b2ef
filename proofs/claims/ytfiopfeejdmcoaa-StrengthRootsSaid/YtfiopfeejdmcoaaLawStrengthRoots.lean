/- For all worlds, roots and levels StrengthRoots answers true: roots are Strong, if they are nodes; their order, and how often they are told, plays no part; without roots nothing is Strong, Soft or Weak. Conditions: none. -/
import Derived.Test.YtfiopfeejdmcoaaL10E
import Derived.Deep.RegionHeld3
namespace Go.Proofs.Ytfiopfeejdmcoaa.strengthRoots
open Go.ChangeShapes Go.WideShapes Go.ChangeAt Go.RowKit Go.Proofs.Ytfiopfeejdmcoaa.L10
open Go.Proofs.Ytfiopfeejdmcoaa.L9 (Nd nd GS RG Rf Lok In64 Srt nd_some nd_none nd_mem own_rd own_cast ptr newX_rt hasB hldX aimX wpList_app)
open Go.Proofs.Ytfiopfeejdmcoaa.L5 (Cl clAt isRf IsCls newX)
set_option linter.unusedVariables false
section
variable {w : World} {u : Wo} {cs : List Cl} {ns : List Int} {ts : List Tr} {a1 : Option Addr} {len1 cap1 : Nat} {zs : List Int} {lev : Int}
theorem has_n {W : World} {b n cap : Nat} {a : Option Addr} {xs : List Int} (h : OL W b (.slice a n cap) xs) (hn : xs.length = n) (hi : ∀ i ∈ xs, In64 i) (hl : xs.length ≤ 1000000) (y : Int) :
    Calls Try.prog 18 #[.slice a n cap, .int .i64 y] W fun e w' => e = .returned (.bool (hasB xs y)) ∧ Grow W w' := by
  subst hn
  exact has_ol h hi hl y
set_option maxRecDepth 100000 in
set_option maxHeartbeats 2000000 in
theorem walk_no (h0 : IsWo w u cs ns ts) (h1 : IsRow .i64 w a1 len1 cap1 zs) (hg : ¬ good u cs ∨ (good u cs ∧ 40 < len1)) :
    Calls Try.prog 6 #[Wo.v u, .slice a1 len1 cap1, .int .i64 lev] w fun e w' => e = .returned (.bool true) ∧ Below w.heap.size w w' := by
  rcases hg with hg | hg
  · skip
    obtain ⟨ca, cl, cc, na, nl, nc, ra, rl, rc⟩ := u
    have hbx := Blk.new w 26 [.slice ca cl cc, .slice na nl nc, .slice ra rl rc]
    have gB := Grow.box w (.cells [.slice ca cl cc, .slice na nl nc, .slice ra rl rc].toArray 26)
    have HWO := hide (h0.chg gB fun _ _ => id)
    have HRW := hide h1
    have HBX := hide hbx
    clear h0 h1 hbx
    have HM := hide (made_no HWO.out hg)
    clear hg HWO HRW HBX
    go_enter Try.func6, Try.ntmps6
    go_wp2_with fail
    refine HM.out.mono ?_
    rintro e w3 ⟨rfl, c3⟩
    have HG := hide (gB.trans c3)
    clear gB c3 HM
    go_wp2_with fail
    refine (awake_any _).mono ?_
    rintro e w4 ⟨rfl, c4⟩
    have HG4 := hide (HG.out.trans c4)
    clear c4
    go_wp2_with fail
    refine (awake_any _).mono ?_
    rintro e w5 ⟨rfl, c5⟩
    have HG5 := hide (HG4.out.trans c5)
    clear c5
    go_wp2
    go_ret
    exact ⟨rfl, HG5.out.below (fun _ _ h => h) (Nat.le_refl _)⟩
  · obtain ⟨hg, hlen⟩ := hg
    obtain ⟨ca, cl, cc, na, nl, nc, ra, rl, rc⟩ := u
    have hbx := Blk.new w 26 [.slice ca cl cc, .slice na nl nc, .slice ra rl rc]
    have gB := Grow.box w (.cells [.slice ca cl cc, .slice na nl nc, .slice ra rl rc].toArray 26)
    have HWO := hide (h0.chg gB fun _ _ => id)
    have HRW := hide h1
    have HBX := hide hbx
    clear h0 h1 hbx
    have HM := hide (made_yes HWO.out hg)
    have q1 : decide ((len1 : Int) > 40) = true := by simp; omega
    clear hg HWO HRW HBX hlen
    go_enter Try.func6, Try.ntmps6
    go_wp2_with fail
    refine HM.out.mono ?_
    rintro e w3 ⟨z, p, q, L, rfl, -, -, -, -, c3⟩
    have HG := hide (gB.trans c3)
    clear gB c3 HM
    go_wp2_with fail
    refine (awake_any _).mono ?_
    rintro e w4 ⟨rfl, c4⟩
    have HG4 := hide (HG.out.trans c4)
    clear c4
    go_wp2_with fail
    refine (awake_any _).mono ?_
    rintro e w5 ⟨rfl, c5⟩
    have HG5 := hide (HG4.out.trans c5)
    clear c5
    go_wp2
    go_ret
    exact ⟨rfl, HG5.out.below (fun _ _ h => h) (Nat.le_refl _)⟩
set_option maxRecDepth 100000 in
set_option maxHeartbeats 8000000 in
theorem walk_main (h0 : IsWo w u cs ns ts) (h1 : IsRow .i64 w a1 len1 cap1 zs) (hg : good u cs) (hle : len1 ≤ 40) (h2 : (Lit.int .i64 lev).wf = true) :
    Calls Try.prog 6 #[Wo.v u, .slice a1 len1 cap1, .int .i64 lev] w fun e w' => e = .returned (.bool true) ∧ Below w.heap.size w w' := by
  obtain ⟨ca, cl, cc, na, nl, nc, ra, rl, rc⟩ := u
  have hbx := Blk.new w 26 [.slice ca cl cc, .slice na nl nc, .slice ra rl rc]
  have gB := Grow.box w (.cells [.slice ca cl cc, .slice na nl nc, .slice ra rl rc].toArray 26)
  have HWO := hide (h0.chg gB fun _ _ => id)
  have HRW := hide h1
  have HBX := hide hbx
  clear h0 h1 hbx
  have HM := hide (made_yes HWO.out hg)
  have q1 : decide ((len1 : Int) > 40) = false := by simp; omega
  have HGD := hide (show nl ≤ 40 ∧ newX cs = 0 ∧ cl ≤ 63 from ⟨hg.1.1, hg.2.2, hg.2.1.2⟩)
  have HLE := hide hle
  clear hg hle
  go_enter Try.func6, Try.ntmps6
  go_wp2_with fail
  refine HM.out.mono ?_
  rintro e w3 ⟨z, p, q, L, rfl, hbo, hids, hrv, -, c3⟩
  obtain ⟨S, T, hgs, hrg, hap⟩ := hbo
  obtain ⟨b, hb⟩ : ∃ b, w.heap.size = b := ⟨_, rfl⟩
  have hst : St w w3 b z p q S T ca cl cc na nl nc ra rl rc cs L a1 len1 cap1 zs := ⟨gB.trans c3, hgs, ⟨hrg, HWO.out.c.chg c3 fun _ _ => id, hgs.lok, (newX_rt HGD.out.2.1).1, by have := congrArg List.length hids; rw [List.length_map, nms_len] at this; have := HGD.out.1; omega, by have := HGD.out.2.2; omega⟩, hap, HRW.out.chg (gB.trans c3) fun _ _ => id, by rw [← hb]; exact HBX.out.chg c3 id, hids, HGD.out.1, hrv, HLE.out⟩
  rw [hb]
  clear gB c3 HM hids hrv hgs hrg hap HWO HRW HBX HGD HLE hb
  go_wp2_with fail
  refine (awake_any _).mono ?_
  rintro e w4 ⟨rfl, c4⟩
  have HST := hide (hst.grow c4)
  clear c4 hst

  obtain ⟨f, hf⟩ := ex_rc cs L lev (srcW L lev zs)
  obtain ⟨F, hF⟩ := ex_of cs L zs
  obtain ⟨f0, hf0⟩ := ex_rc cs L 1 (srcC L 1 [])
  obtain ⟨f3, hf3⟩ := ex_rc cs L 3 (srcW L 3 [])
  have hz := HST.out.z40
  have HF := hide (And.intro hf hF)
  have HE0 := hide (And.intro hf0 (And.intro hf3 (And.intro (none_low (by decide) (show IsRc cs L 1 (srcW L 1 []) f0 by rw [srcW_pos (by decide)]; exact hf0)) (none_low (Int.le_refl _) hf3))))
  have HZL := hide HST.out.row.1
  clear hf hF hf0 hf3
  go_wp2_with fail
  go_loopw [10, 34] (fun v u wr => ∃ (k : Nat) (tz : List Int), k ≤ len1 ∧ u = .int .i64 k ∧ OL wr w4.heap.size v tz ∧ Grow w4 wr ∧ tz.length = 2 * k ∧ (∀ i ∈ tz, i ∈ zs) ∧ (∀ j, j < k → zs.getD j 0 ∈ tz)) (fun _ u _ => len1 - (Go.RowKit.intOf u).toNat)
  case atStart => exact ⟨0, [], Nat.zero_le _, rfl, ol_nil _ _, Chg.refl _ _, rfl, fun i h => (by cases h), fun j h => by omega⟩
  case round =>
    obtain ⟨k, tz, hk, rfl, ho, hg, hln, hs1, hs2⟩ := hrel
    rcases Nat.eq_or_lt_of_le hk with hke | hlt
    · have hke2 := hke.symm
      subst hke2
      have q2 : decide ((len1 : Int) < len1) = false := by simp
      have hiff : ∀ i, i ∈ zs ↔ i ∈ tz := fun i => ⟨fun hi => by
        obtain ⟨j, hj, rfl⟩ := List.getElem_of_mem hi
        have := hs2 j (by rw [← HZL.out]; exact hj)
        rwa [List.getD_eq_getElem?_getD, List.getElem?_eq_getElem hj] at this, hs1 i⟩
      have hsr := same_roots hiff HF.out.1
      obtain ⟨va, vc, rfl⟩ := own_len ho
      have hst5 := HST.out.grow hg
      have HA := hide (hst5.within (c := cap1) lev hst5.rd (by omega) hst5.i64 HF.out.1)
      have HB := hide (fun (W : World) (c : Grow wr W) => (hst5.grow c).within (c := vc) lev (own_rd (own_grow ho c)) (by omega) (fun i hi => hst5.i64 i ((hiff i).2 hi)) hsr)
      have HC := hide (fun (W : World) (c : Grow wr W) => reach_any (c := 0) (hst5.grow c).gs (hst5.grow c).ll (L1.Rd.nothing : L1.Rd W none 0 []) (by omega) (fun i h => by cases h) HE0.out.1)
      have HD := hide (fun (W : World) (c : Grow wr W) => (hst5.grow c).within (c := 0) 3 (L1.Rd.nothing : L1.Rd W none 0 []) (by omega) (fun i h => by cases h) HE0.out.2.1)
      rw [HE0.out.2.2.1] at HC
      rw [HE0.out.2.2.2] at HD
      have HL1 := hide (HST.out.cl_in f).2
      have HS5 := hide hst5
      clear ho hg hs1 hs2 hiff hsr hst5 hk hke hln
      generalize clL L f = xs at *
      obtain ⟨n1, hn1⟩ : ∃ n1, xs.length = n1 := ⟨_, rfl⟩
      have HN1 := hide hn1
      rw [hn1] at HA HB HL1
      clear hn1
      generalize tz.length = t2 at *
      go_wp2_with fail
      refine HA.out.mono ?_
      rintro e w5 ⟨ha, hca, rfl, ho, c5⟩
      have HO1 := hide ho
      have HG5 := hide c5
      clear ho c5 HA
      go_wp2_with fail
      refine (HB.out _ HG5.out).mono ?_
      rintro e w6 ⟨hb, hcb, rfl, ho, c6⟩
      have HS1 := hide (And.intro (own_rd (own_cast (OL.grow HO1.out c6) HN1.out)) (own_rd (own_cast ho HN1.out)))
      have HG6 := hide (HG5.out.trans c6)
      clear ho c6 HO1 HB HG5
      go_wp2_with fail
      refine (L1.same_yes _ _ _ _ _ _ _ HS1.out.1 HS1.out.2 (by have := HL1.out; omega)).mono ?_
      rintro e w7 ⟨rfl, c7⟩
      have HG7 := hide (HG6.out.trans c7)
      clear c7 HS1 HG6
      go_wp2_with fail
      refine (HC.out _ HG7.out).mono ?_
      rintro e w8 ⟨hc, hcc, rfl, -, c8⟩
      have HG8 := hide (HG7.out.trans c8)
      clear c8 HC HG7
      go_wp2_with fail
      refine (HD.out _ HG8.out).mono ?_
      rintro e w9 ⟨hd, hcd, rfl, -, c9⟩
      have HE := hide (HS5.out.grow (HG8.out.trans c9))
      clear c9 HD HG8 HS5
      go_wp2
      go_ret
      exact ⟨rfl, HE.out.end_⟩
    · have q2 : decide ((k : Int) < len1) = true := decide_eq_true (by omega)
      obtain ⟨l1, hl1⟩ : ∃ l1, len1 - 1 = l1 := ⟨_, rfl⟩
      obtain ⟨l2, hl2⟩ : ∃ l2, len1 - 1 - k = l2 := ⟨_, rfl⟩
      have p0 : l2 < len1 := by omega
      have p1 : k < len1 := hlt
      obtain ⟨p2, p3, p4, p5, hw⟩ := (show IntKind.i64.wrap ((len1 : Int) - 1) = (l1 : Int) ∧ IntKind.i64.wrap ((l1 : Int) - (k : Int)) = (l2 : Int) ∧ wrap64 ((len1 : Int) - 1) = (l1 : Int) ∧ wrap64 ((l1 : Int) - (k : Int)) = (l2 : Int) ∧ IntKind.i64.wrap ((k : Int) + 1) = ((k + 1 : Nat) : Int) from ⟨(IntWalk.i64_in _ (by omega)).trans (by omega), (IntWalk.i64_in _ (by omega)).trans (by omega), (wrap64_id _ (by omega)).trans (by omega), (wrap64_id _ (by omega)).trans (by omega), (IntWalk.i64_in _ (by omega)).trans (by omega)⟩)
      have hst5 := HST.out.grow hg
      obtain ⟨xa, hxa, c1, hi1⟩ := HST.out.row.at_ p1
      obtain ⟨xb, hxb, c2, hi2⟩ := HST.out.row.at_ p0
      rw [hxa] at hxb
      injection hxb with hxb
      subst hxb
      have hm1 : zs.getD k 0 ∈ zs := getD_mem (by rw [HZL.out]; exact p1)
      have hm2 : zs.getD l2 0 ∈ zs := getD_mem (by rw [HZL.out]; exact p0)
      obtain ⟨t1, ht1⟩ : ∃ t1, zs.getD k 0 = t1 := ⟨_, rfl⟩
      obtain ⟨t2, ht2⟩ : ∃ t2, zs.getD l2 0 = t2 := ⟨_, rfl⟩
      rw [ht1] at c1 hi1 hm1
      rw [ht2] at c2 hi2 hm2
      have gB : Grow wr (wr.alloc (.cells [.int .i64 t2, .int .i64 t1].toArray 3)).drew := (Grow.box _ _).drew
      obtain ⟨v', W', hr, ho', cg', hgr⟩ := app_more (w := w4) (c0 := 2) (hg.trans gB) (OL.grow ho gB) ((L1.Rd.of_blk (Blk.new wr 3 [.int .i64 t2, .int .i64 t1]) rfl : L1.Rd _ _ 2 [t2, t1])) (by omega)
      have HNW := hide (⟨ho', cg', by simp; omega, fun i hi => by
        rcases List.mem_append.1 hi with hi | hi
        · exact hs1 i hi
        · simp only [List.mem_cons, List.not_mem_nil, or_false] at hi
          rcases hi with rfl | rfl
          · exact hm2
          · exact hm1, fun j hj => by
        rcases Nat.eq_or_lt_of_le (Nat.le_of_lt_succ hj) with rfl | h3
        · rw [ht1]; simp
        · exact List.mem_append_left _ (hs2 j h3)⟩ : OL W' w4.heap.size v' (tz ++ [t2, t1]) ∧ Grow w4 W' ∧ (tz ++ [t2, t1]).length = 2 * (k + 1) ∧ (∀ i ∈ tz ++ [t2, t1], i ∈ zs) ∧ (∀ j, j < k + 1 → zs.getD j 0 ∈ tz ++ [t2, t1]))
      have K1 := hide hr
      have hkW : W'.cell? (xa.add k) = some (.int .i64 t1) ∧ W'.cell? (xa.add l2) = some (.int .i64 t2) := ⟨cg'.cell c1, cg'.cell c2⟩
      replace c1 := hg.cell c1
      replace c2 := hg.cell c2
      have HCL := hide (fun (W : World) (g : Grow wr W) => (⟨g.cell c1, g.cell c2⟩ : W.cell? (xa.add k) = some (.int .i64 t1) ∧ W.cell? (xa.add l2) = some (.int .i64 t2)))
      have HK := hide hlt
      have hst6 := hide (HST.out.grow cg')
      have HC6 := hide ((HST.out.grow cg').row)
      have HT := hide (And.intro hi1 (And.intro hm1 (And.intro ht1 hxa)))
      clear hr ho' cg' hgr gB ho hg hln hs1 hs2 hm1 hm2 ht1 ht2 hi1 hi2 hl1 hl2 hlt hk hst5
      subst hxa
      go_wp2_with fail
      go_region_held3 (fun W => W.cell? (xa.add k) = some (.int .i64 t1) ∧ W.cell? (xa.add l2) = some (.int .i64 t2)) (first | exact ⟨c1, c2⟩ | exact hkW | (refine HCL.out _ ?_ <;> (repeat (first | exact Chg.refl _ _ | refine Chg.drew ?_ | refine Chg.alloc ?_ _)))) (refine L9.step_app (by rfl) _ _ _ (by rfl) u10 (.slice (some ⟨wr.heap.size, 0, none⟩) 2 2) v' W' (by rfl) (by rfl) K1.out ?_)
      have c3 := hkW.1
      clear hkW c1 c2 K1 HCL p0 p2 p3 p4 p5 q2
      cases hn : nd L t1 with
      | none =>
        have HND := hide (L9.node_no hst6.out.gs HT.out.1 hn)
        clear hn
        go_wp2_with fail
        refine HND.out.mono ?_
        rintro e w7 ⟨rfl, c7⟩
        have gc := c7.alloc (.cells #[.int .i64 0, .int .i64 0, .slice none 0 0, .slice none 0 0, .bool false] 43)
        have HY := hide (⟨OL.grow HNW.out.1 gc, HNW.out.2.1.trans gc, HNW.out.2.2⟩ : OL (w7.alloc (.cells #[.int .i64 0, .int .i64 0, .slice none 0 0, .slice none 0 0, .bool false] 43)) w4.heap.size v' (tz ++ [t2, t1]) ∧ Grow w4 (w7.alloc (.cells #[.int .i64 0, .int .i64 0, .slice none 0 0, .slice none 0 0, .bool false] 43)) ∧ _)
        clear c7 gc HND
        go_wp2
        go_roundw
        case rel => exact ⟨k + 1, tz ++ [t2, t1], HK.out, rfl, HY.out⟩
        case measure => have := HK.out; simp [Go.RowKit.intOf]; omega
      | some x =>
        have HND := hide (L9.node_yes hst6.out.gs HT.out.1 hn)
        have hxi := (nd_some hn).2
        have HOF := hide (fun (W : World) (c : Grow W' W) => (hst6.out.grow c).of_ (c := cap1) (hst6.out.grow c).rd (by omega) hst6.out.i64 HF.out.2 (show In64 x.id by rw [hxi]; exact HT.out.1))
        rw [root_one HF.out.2 (show x.id ∈ zs by rw [hxi]; exact HT.out.2.1) (by rw [hxi, hn]; simp)] at HOF
        clear hn hxi
        go_wp2_with fail
        refine HND.out.mono ?_
        rintro e w7 ⟨ar, cr, ad, cd, rfl, -, c7⟩
        have gc := c7.alloc (.cells #[.int .i64 x.id, .int .i64 x.c, .slice ar x.refs.length cr, .slice ad x.data.length cd, .bool x.fin] 43)
        have HO2 := hide (HOF.out _ gc)
        have HY := hide (⟨OL.grow HNW.out.1 gc, HNW.out.2.1.trans gc, HNW.out.2.2⟩ : OL (w7.alloc (.cells #[.int .i64 x.id, .int .i64 x.c, .slice ar x.refs.length cr, .slice ad x.data.length cd, .bool x.fin] 43)) w4.heap.size v' (tz ++ [t2, t1]) ∧ Grow w4 (w7.alloc (.cells #[.int .i64 x.id, .int .i64 x.c, .slice ar x.refs.length cr, .slice ad x.data.length cd, .bool x.fin] 43)) ∧ _)
        clear c7 gc HND HOF
        go_wp2_with fail
        refine HO2.out.mono ?_
        rintro e w8 ⟨rfl, c8⟩
        have HZ2 := hide (⟨OL.grow HY.out.1 c8, HY.out.2.1.trans c8, HY.out.2.2⟩ : OL w8 w4.heap.size v' (tz ++ [t2, t1]) ∧ Grow w4 w8 ∧ _)
        clear c8 HY HO2
        go_wp2
        go_roundw
        case rel => exact ⟨k + 1, tz ++ [t2, t1], HK.out, rfl, HZ2.out⟩
        case measure => have := HK.out; simp [Go.RowKit.intOf]; omega
theorem walk (u : Wo) (cs : List Cl) (ns : List Int) (ts : List Tr) (a1 : Option Addr) (len1 cap1 : Nat) (zs : List Int) (lev : Int) (w : World) (h0 : IsWo w u cs ns ts) (h1 : IsRow .i64 w a1 len1 cap1 zs) (h2 : (Lit.int .i64 lev).wf = true) :
    Calls Try.prog 6 #[Wo.v u, .slice a1 len1 cap1, .int .i64 lev] w fun e w' => e = .returned (.bool true) ∧ Below w.heap.size w w' := by
  by_cases hg : good u cs
  · by_cases hl : 40 < len1
    · exact walk_no h0 h1 (.inr ⟨hg, hl⟩)
    · exact walk_main h0 h1 hg (by omega) h2
  · exact walk_no h0 h1 (.inl hg)
end
theorem own : ownKnob Try.prog.godebug = none := by kernel_rfl
theorem laidOut : laidOutB Try.prog = true := by kernel_rfl

set_option maxRecDepth 100000 in
theorem lifted (os : Os) (started : os.Started) (H : Type) (enc : TypeId × Value → H) :
    ReturnsInHanded {} Try.checked os 6 .any (Rows.strengthRootsSpec.pre6 enc Try.prog Try.f6 Rows.strengthRootsRow.domain false) (Rows.strengthRootsSpec.post enc Try.prog Try.f6 false true false false) := by
  refine returnsInHanded_of_change (C := Try.checked) own started (by kernel_rfl) Try.func6
    (ChangeSpec.witness6 (enc := enc) (C := Try.checked) false ⟨#[], #[.agg #[.slice none 0 0, .slice none 0 0, .slice none 0 0], .slice none 0 0, .int .i64 0], []⟩ 8 (by kernel_rfl) (by kernel_rfl) (by kernel_rfl) (by kernel_rfl)) ?_
  intro W base args ds gs before hval0 hW hcnd _
  have hval : ∀ (j : Nat) t v, Try.f6.params[j]? = some t → args[j]? = some v → Value.okWide Try.prog W .any base t v := hval0
  have hW' := hW
  obtain ⟨p, q, hA0, hV, rfl, hfz, hnd⟩ := hW
  have hA : DataW.TrodAll enc Try.prog W 0 (fun _ => true) true Try.f6.params.toList args.toList ds p := hA0
  rw [Try.params6] at hA hval
  obtain ⟨v0, vs0, d0, ds0, p0, q0, hargs, rfl, rfl, h0, r0⟩ := trodAll_cons hA
  obtain ⟨v1, vs1, d1, ds1, p1, q1, rfl, rfl, rfl, h1, r1⟩ := trodAll_cons r0
  obtain ⟨v2, vs2, d2, ds2, p2, q2, rfl, rfl, rfl, h2, r2⟩ := trodAll_cons r1
  obtain ⟨rfl, rfl, rfl⟩ := trodAll_nil r2
  obtain rfl : args = #[v0, v1, v2] := by cases args; simp_all
  obtain ⟨rfl, rfl⟩ := trodVars_none hV
  have k0 := h0
  have lt0 : ∀ x ∈ p0, x.block < W.heap.size := by obtain ⟨m, hm⟩ := k0; exact DataW.trod_lt m _ _ _ hm
  obtain ⟨u0, cs0, ns0, ts0, rfl, w0⟩ := open_world (hval 0 26 v0 rfl rfl) h0
  obtain ⟨a1, len1, cap1, rfl⟩ := okWide_slice Try.underlying27 (hval 1 27 v1 rfl rfl)
  have k1 := h1
  have lt1 : ∀ x ∈ p1, x.block < W.heap.size := by obtain ⟨m, hm⟩ := k1; exact DataW.trod_lt m _ _ _ hm
  obtain ⟨z1, w1⟩ : ∃ zs, IsRow .i64 W a1 len1 cap1 zs := open_row Try.underlying27 Try.underlying3 (by kernel_rfl) h1
  obtain ⟨a2, rfl, rfl, rfl, w2⟩ := open_int Try.underlying3 (hval 2 3 v2 rfl rfl) h2
  clear hA0 hval0
  refine (walk u0 cs0 ns0 ts0 a1 len1 cap1 z1 a2 W w0 w1 w2).mono fun e W' ⟨he, bel⟩ => ?_
  subst he
  exact ⟨_, rfl, _, _, _, [], _, [], hW', trodAll_mk1 (shut_bool Try.underlying4 _), (trodAll_cons_mk (Below.trod laidOut (by kernel_rfl) (of_decide_eq_true (by kernel_rfl)) k0 bel lt0) (trodAll_cons_mk (Below.trod laidOut (by kernel_rfl) (of_decide_eq_true (by kernel_rfl)) k1 bel lt1) (trodAll_cons_mk (shut_int Try.underlying3 w2) trodAll_mk0))), rfl, bel.frame _, fun h => by cases h⟩

theorem over : Rows.strengthRootsRow.holds Try.pinned (OpenSpec.ofChange Rows.strengthRootsSpec) :=
  OpenClaim.holds_of_wide 6 Try.f6 rfl rfl rfl rfl rfl rfl rfl ⟨rfl, rfl, rfl, rfl, rfl⟩ rfl rfl rfl rfl rfl (by kernel_rfl) Try.func6 (by kernel_rfl)
    (of_decide_eq_true (by kernel_rfl)) (by unfold Func.isWrapper; first | (rw [if_pos (by decide +kernel)]; kernel_rfl) | (rw [if_neg (by decide +kernel)]; exact ⟨rfl, rfl⟩))
    (fun os started H enc _ => lifted os started H enc)

/-- The statement. -/
theorem proved : Rows.StrengthRootsSaid := over
#print axioms proved
end Go.Proofs.Ytfiopfeejdmcoaa.strengthRoots

