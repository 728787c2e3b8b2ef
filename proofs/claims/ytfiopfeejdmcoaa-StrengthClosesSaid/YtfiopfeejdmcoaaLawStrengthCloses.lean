/- For all worlds, roots and levels StrengthCloses answers true: from all that is reached within a level nothing more is reached; each node that is reached is a root, is Final, or is led to by another one that is reached. Conditions: none. -/
import Derived.Test.YtfiopfeejdmcoaaL10E
import Derived.Deep.RegionHeld3
namespace Go.Proofs.Ytfiopfeejdmcoaa.strengthCloses
open Go.ChangeShapes Go.WideShapes Go.ChangeAt Go.RowKit Go.Proofs.Ytfiopfeejdmcoaa.L10
open Go.Proofs.Ytfiopfeejdmcoaa.L9 (Nd nd GS RG Rf Lok In64 Srt nd_some nd_none nd_mem own_rd own_cast ptr newX_rt hasB hldX aimX wpList_app)
open Go.Proofs.Ytfiopfeejdmcoaa.L5 (Cl clAt isRf IsCls newX)
set_option linter.unusedVariables false
section
variable {w : World} {u : Wo} {cs : List Cl} {ns : List Int} {ts : List Tr} {a1 : Option Addr} {len1 cap1 : Nat} {zs : List Int} {lev : Int}
/-- Was it led to, by what has come? -/
def ldk (cs : List Cl) (L : List Nd) (b0 : Bool) (xs : List Int) (t : Int) (k : Nat) : Bool := b0 || (xs.take k).any fun y => decide ((aimX cs L y).1 = t) || hasB (hldX cs L y) t
theorem ldk_step {cs : List Cl} {L : List Nd} {b0 : Bool} {xs : List Int} {t : Int} {k : Nat} (hk : k < xs.length) : ldk cs L b0 xs t (k + 1) = (ldk cs L b0 xs t k || (decide ((aimX cs L (xs.getD k 0)).1 = t) || hasB (hldX cs L (xs.getD k 0)) t)) := by
  unfold ldk
  rw [List.take_add_one, List.getElem?_eq_getElem hk, List.getD_eq_getElem?_getD, List.getElem?_eq_getElem hk, List.any_append, Bool.or_assoc]
  simp
theorem ldk_all {cs : List Cl} {L : List Nd} {b0 : Bool} {xs : List Int} {t : Int} {n : Nat} (hn : xs.length = n) (h : b0 = true ∨ ∃ j ∈ xs, (aimX cs L j).1 = t ∨ t ∈ hldX cs L j) : ldk cs L b0 xs t n = true := by
  unfold ldk
  rw [← hn, List.take_length, Bool.or_eq_true]
  rcases h with h | ⟨j, hj, h⟩
  · exact .inl h
  · refine .inr (List.any_eq_true.2 ⟨j, hj, ?_⟩)
    rw [Bool.or_eq_true]
    rcases h with h | h
    · exact .inl (decide_eq_true h)
    · exact .inr (hasB_iff.2 h)
theorem has_n {W : World} {b n cap : Nat} {a : Option Addr} {xs : List Int} (h : OL W b (.slice a n cap) xs) (hn : xs.length = n) (hi : ∀ i ∈ xs, In64 i) (hl : xs.length ≤ 1000000) (y : Int) :
    Calls Try.prog 18 #[.slice a n cap, .int .i64 y] W fun e w' => e = .returned (.bool (hasB xs y)) ∧ Grow W w' := by
  subst hn
  exact has_ol h hi hl y
set_option maxRecDepth 100000 in
set_option maxHeartbeats 2000000 in
theorem walk_no (h0 : IsWo w u cs ns ts) (h1 : IsRow .i64 w a1 len1 cap1 zs) (hg : ¬ good u cs ∨ (good u cs ∧ 40 < len1)) :
    Calls Try.prog 7 #[Wo.v u, .slice a1 len1 cap1, .int .i64 lev] w fun e w' => e = .returned (.bool true) ∧ Below w.heap.size w w' := by
  rcases hg with hg | hg
  · skip
    obtain ⟨ca, cl, cc, na, nl, nc, ra, rl, rc⟩ := u
    have hbx := Blk.new w 26 [.slice ca cl cc, .slice na nl nc, .slice ra rl rc]
    have gB := Grow.box w (.cells [.slice ca cl cc, .slice na nl nc, .slice ra rl rc].toArray 26)
    have HWO := hide (h0.chg gB fun _ _ => id)
    have HRW := hide h1
    have HBX := hide hbx
    clear h0 h1 hbx
    have HM := hide (made_no HWO.out hg)
    clear hg HWO HRW HBX
    go_enter Try.func7, Try.ntmps7
    go_wp2_with fail
    refine HM.out.mono ?_
    rintro e w3 ⟨rfl, c3⟩
    have HG := hide (gB.trans c3)
    clear gB c3 HM
    go_wp2_with fail
    refine (awake_any _).mono ?_
    rintro e w4 ⟨rfl, c4⟩
    have HG4 := hide (HG.out.trans c4)
    clear c4
    go_wp2_with fail
    refine (awake_any _).mono ?_
    rintro e w5 ⟨rfl, c5⟩
    have HG5 := hide (HG4.out.trans c5)
    clear c5
    go_wp2
    go_ret
    exact ⟨rfl, HG5.out.below (fun _ _ h => h) (Nat.le_refl _)⟩
  · obtain ⟨hg, hlen⟩ := hg
    obtain ⟨ca, cl, cc, na, nl, nc, ra, rl, rc⟩ := u
    have hbx := Blk.new w 26 [.slice ca cl cc, .slice na nl nc, .slice ra rl rc]
    have gB := Grow.box w (.cells [.slice ca cl cc, .slice na nl nc, .slice ra rl rc].toArray 26)
    have HWO := hide (h0.chg gB fun _ _ => id)
    have HRW := hide h1
    have HBX := hide hbx
    clear h0 h1 hbx
    have HM := hide (made_yes HWO.out hg)
    have q1 : decide ((len1 : Int) > 40) = true := by simp; omega
    clear hg HWO HRW HBX hlen
    go_enter Try.func7, Try.ntmps7
    go_wp2_with fail
    refine HM.out.mono ?_
    rintro e w3 ⟨z, p, q, L, rfl, -, -, -, -, c3⟩
    have HG := hide (gB.trans c3)
    clear gB c3 HM
    go_wp2_with fail
    refine (awake_any _).mono ?_
    rintro e w4 ⟨rfl, c4⟩
    have HG4 := hide (HG.out.trans c4)
    clear c4
    go_wp2_with fail
    refine (awake_any _).mono ?_
    rintro e w5 ⟨rfl, c5⟩
    have HG5 := hide (HG4.out.trans c5)
    clear c5
    go_wp2
    go_ret
    exact ⟨rfl, HG5.out.below (fun _ _ h => h) (Nat.le_refl _)⟩
set_option maxRecDepth 100000 in
set_option maxHeartbeats 8000000 in
theorem walk_main (h0 : IsWo w u cs ns ts) (h1 : IsRow .i64 w a1 len1 cap1 zs) (hg : good u cs) (hle : len1 ≤ 40) (h2 : (Lit.int .i64 lev).wf = true) :
    Calls Try.prog 7 #[Wo.v u, .slice a1 len1 cap1, .int .i64 lev] w fun e w' => e = .returned (.bool true) ∧ Below w.heap.size w w' := by
  obtain ⟨ca, cl, cc, na, nl, nc, ra, rl, rc⟩ := u
  have hbx := Blk.new w 26 [.slice ca cl cc, .slice na nl nc, .slice ra rl rc]
  have gB := Grow.box w (.cells [.slice ca cl cc, .slice na nl nc, .slice ra rl rc].toArray 26)
  have HWO := hide (h0.chg gB fun _ _ => id)
  have HRW := hide h1
  have HBX := hide hbx
  clear h0 h1 hbx
  have HM := hide (made_yes HWO.out hg)
  have q1 : decide ((len1 : Int) > 40) = false := by simp; omega
  have HGD := hide (show nl ≤ 40 ∧ newX cs = 0 ∧ cl ≤ 63 from ⟨hg.1.1, hg.2.2, hg.2.1.2⟩)
  have HLE := hide hle
  clear hg hle
  go_enter Try.func7, Try.ntmps7
  go_wp2_with fail
  refine HM.out.mono ?_
  rintro e w3 ⟨z, p, q, L, rfl, hbo, hids, hrv, -, c3⟩
  obtain ⟨S, T, hgs, hrg, hap⟩ := hbo
  obtain ⟨b, hb⟩ : ∃ b, w.heap.size = b := ⟨_, rfl⟩
  have hst : St w w3 b z p q S T ca cl cc na nl nc ra rl rc cs L a1 len1 cap1 zs := ⟨gB.trans c3, hgs, ⟨hrg, HWO.out.c.chg c3 fun _ _ => id, hgs.lok, (newX_rt HGD.out.2.1).1, by have := congrArg List.length hids; rw [List.length_map, nms_len] at this; have := HGD.out.1; omega, by have := HGD.out.2.2; omega⟩, hap, HRW.out.chg (gB.trans c3) fun _ _ => id, by rw [← hb]; exact HBX.out.chg c3 id, hids, HGD.out.1, hrv, HLE.out⟩
  rw [hb]
  clear gB c3 HM hids hrv hgs hrg hap HWO HRW HBX HGD HLE hb
  go_wp2_with fail
  refine (awake_any _).mono ?_
  rintro e w4 ⟨rfl, c4⟩
  have HST := hide (hst.grow c4)
  clear c4 hst

  obtain ⟨f, hf⟩ := ex_rc cs L lev (srcW L lev zs)
  have hz := HST.out.z40
  have HF := hide hf
  have HA := hide (HST.out.within (c := cap1) lev HST.out.rd (by omega) HST.out.i64 hf)
  have HL1 := hide (HST.out.cl_in f)
  have HM := hide (fun i (h : i ∈ clL L f) => (clL_mem hf).1 h)
  have HLED := hide (fun i (h : i ∈ clL L f) => led_by HST.out.gs.srt hf ((clL_mem hf).1 h))
  have HMB := hide (fun i (h : f i = true) => (clL_mem hf).2 h)
  have HCL := hide (fun (h1 : 1 ≤ lev) => closes h1 hf)
  obtain ⟨xs, hxs⟩ : ∃ xs, clL L f = xs := ⟨_, rfl⟩
  obtain ⟨n1, hn1⟩ : ∃ n1, xs.length = n1 := ⟨_, rfl⟩
  rw [hxs] at HA HL1 HM HLED HMB HCL
  have HXS := hide hxs
  have HN1 := hide hn1
  rw [hn1] at HA
  clear hf hxs hn1
  go_wp2_with fail
  refine HA.out.mono ?_
  rintro e w5 ⟨ha, hca, rfl, ho, c5⟩
  have HO5 := hide ho
  have HS5 := hide (HST.out.grow c5)
  clear ho c5 HA
  by_cases hlv : lev ≥ 1
  · have q2 : decide (lev ≥ 1) = true := decide_eq_true hlv
    have HB := hide (HS5.out.within (c := hca) lev (own_rd (own_cast HO5.out HN1.out)) (by have := HL1.out.2; have := HN1.out; omega) HL1.out.1 (HCL.out hlv))
    rw [HXS.out, HN1.out] at HB
    clear hlv
    go_wp2_with fail
    refine HB.out.mono ?_
    rintro e w6 ⟨hb, hcb, rfl, ho, c6⟩
    have HS1 := hide (And.intro (own_rd (own_cast ho HN1.out)) (own_rd (own_cast (OL.grow HO5.out c6) HN1.out)))
    have HG6 := hide c6
    clear ho c6 HB
    go_wp2_with fail
    refine (L1.same_yes _ _ _ _ _ _ _ HS1.out.1 HS1.out.2 (by have := HL1.out.2; have := HN1.out; omega)).mono ?_
    rintro e w7 ⟨rfl, c7⟩
    have HG := hide (HG6.out.trans c7)
    clear c7 HS1 HG6
    go_wp2_with fail
    go_loopw [53] (fun v wr => ∃ i : Nat, i ≤ n1 ∧ v = .int .i64 i ∧ Grow w5 wr) (fun v _ => n1 - (Go.RowKit.intOf v).toNat)
    case atStart => exact ⟨0, Nat.zero_le _, rfl, HG.out⟩
    case round =>
      clear HG
      obtain ⟨i, hi, rfl, hg⟩ := hrel
      rcases Nat.eq_or_lt_of_le hi with hie | hil
      · have hie2 := hie.symm
        subst hie2
        have q3 : decide ((n1 : Int) < n1) = false := by simp
        have HE := hide (HS5.out.grow hg)
        clear hg hi hie
        go_wp2
        go_ret
        exact ⟨rfl, HE.out.end_⟩
      · have q3 : decide ((i : Int) < n1) = true := decide_eq_true (by omega)
        have hn6 : n1 ≤ 1000000 := by have := HL1.out.2; have := HN1.out; omega
        have hwi : IntKind.i64.wrap ((i : Int) + 1) = ((i + 1 : Nat) : Int) := (IntWalk.i64_in _ (by omega)).trans (by omega)
        obtain ⟨gl, hla, -, -, -, hci⟩ := L9.own_at (own_cast HO5.out HN1.out) hil
        subst hla
        have hm := getD_mem (xs := xs) (j := i) (by rw [HN1.out]; exact hil)
        have hti := HL1.out.1 _ hm
        have hled := HLED.out _ hm
        obtain ⟨x, hx⟩ := Option.ne_none_iff_exists'.1 ((HF.out _).1 (HM.out _ hm)).is_
        obtain ⟨t, ht⟩ : ∃ t, xs.getD i 0 = t := ⟨_, rfl⟩
        rw [ht] at hci hm hti hled hx
        have HCI := hide (fun W (g : Grow w5 W) => g.cell hci)
        have c1 := hg.cell hci
        have HND := hide (L9.node_yes (HS5.out.grow hg).gs hti hx)
        obtain ⟨b1, hb1⟩ : ∃ b1, hasB zs t = b1 := ⟨_, rfl⟩
        have HHR := hide (fun W (g : Grow wr W) => (L9.has_any ((HS5.out.grow hg).grow g).row t (by omega) : Calls Try.prog 18 _ W _))
        rw [hb1] at HHR
        have HEND := hide (show ldk cs L (b1 || x.fin) xs t n1 = true from ldk_all HN1.out (by
          rcases hled with h | ⟨y, hy, hyf⟩ | ⟨j, hj, h⟩
          · left; rw [← hb1, hasB_iff.2 h]; rfl
          · rw [hx] at hy; injection hy with hy; subst hy
            left; rw [hyf, Bool.or_true]
          · exact .inr ⟨j, HMB.out _ hj, h⟩))
        have HK := hide hil
        have HGR := hide hg
        have HT := hide (And.intro hti ht)
        clear hg hi hil hm hti hled hx ht hb1 hci
        go_wp2_with fail
        refine HND.out.mono ?_
        rintro e w8 ⟨ar, cr, ad, cd, rfl, -, c8⟩
        have gc := c8.alloc (.cells #[.int .i64 x.id, .int .i64 x.c, .slice ar x.refs.length cr, .slice ad x.data.length cd, .bool x.fin] 43)
        have HHR2 := hide (HHR.out _ gc)
        have hxb := (Blk.new w8 43 [.int .i64 x.id, .int .i64 x.c, .slice ar x.refs.length cr, .slice ad x.data.length cd, .bool x.fin]).cell 4
        replace c1 := gc.cell c1
        have HGC := hide (HGR.out.trans gc)
        have HXB := hide hxb
        clear c8 gc HHR hxb HND
        go_wp2_with fail
        refine HHR2.out.mono ?_
        rintro e w9 ⟨rfl, m9, rfl⟩
        have x4 := HXB.out
        have HG9 := hide (HGC.out.drewN m9)
        clear HHR2 c1 HGC
        have HLE := hide (show b1 = true → (b1 || x.fin) = true from fun h => by rw [h]; rfl)
        cases b1 with
        | true =>
          go_wp2_with fail
          go_loopw [14, 77] (fun v u wr => ∃ k : Nat, k ≤ n1 ∧ u = .int .i64 k ∧ v = .bool (ldk cs L (true || x.fin) xs t k) ∧ Grow w5 wr) (fun _ u _ => n1 - (Go.RowKit.intOf u).toNat)
          case atStart => exact ⟨0, Nat.zero_le _, rfl, by simp [ldk], HG9.out⟩
          case round =>
            clear HG9 x4 HXB
            obtain ⟨k, hk, rfl, rfl, hg⟩ := hrel
            rcases Nat.eq_or_lt_of_le hk with hke | hkl
            · have hke2 := hke.symm
              subst hke2
              rw [HEND.out]
              have q5 : decide ((n1 : Int) < n1) = false := by simp
              have HY := hide hg
              clear hg hk hke
              go_wp2
              go_roundw
              case rel => exact ⟨i + 1, HK.out, rfl, HY.out⟩
              case measure => have := HK.out; simp [Go.RowKit.intOf]; omega
            · have q5 : decide ((k : Int) < n1) = true := decide_eq_true (by omega)
              have hwk : IntKind.i64.wrap ((k : Int) + 1) = ((k + 1 : Nat) : Int) := (IntWalk.i64_in _ (by omega)).trans (by omega)
              obtain ⟨gl2, hla2, -, -, -, hck⟩ := L9.own_at (own_cast HO5.out HN1.out) hkl
              injection hla2 with hla2
              injection hla2 with hla2
              subst hla2
              have hmk := getD_mem (xs := xs) (j := k) (by rw [HN1.out]; exact hkl)
              have hyi := HL1.out.1 _ hmk
              have hst := ldk_step (cs := cs) (L := L) (b0 := (true || x.fin)) (xs := xs) (t := t) (k := k) (by rw [HN1.out]; exact hkl)
              obtain ⟨y, hy⟩ : ∃ y, xs.getD k 0 = y := ⟨_, rfl⟩
              rw [hy] at hck hmk hyi hst
              have HCK := hide (fun W (g : Grow w5 W) => g.cell hck)
              have HAI := hide (L9.aim_gs (HS5.out.grow hg).gs hyi)
              have HHO := hide (fun W (g : Grow wr W) => L9.holds_gs ((HS5.out.grow hg).grow g).gs hyi)
              have HHI := hide (show ∀ j ∈ hldX cs L y, In64 j from fun j hj => by
                cases hny : nd L y with
                | none => rw [hld_none hny] at hj; cases hj
                | some z => exact (HS5.out.gs.ok (nd_some hny).1).rw_ j (hld_mem hny hj).1)
              have HHL := hide (show (hldX cs L y).length ≤ 1000000 from by
                cases hny : nd L y with
                | none => rw [hld_none hny]; simp
                | some z => unfold hldX; rw [hny]; have h2 := L9.hld_len (isRf (L9.kd (clAt cs z.c))) z.refs; have h3 := (HS5.out.gs.ok (nd_some hny).1).rl; show (L9.hld _ z.refs).length ≤ _; omega)
              obtain ⟨⟨at1, ak1⟩, hax⟩ : ∃ pr : Int × Int, aimX cs L y = pr := ⟨_, rfl⟩
              rw [hax] at HAI hst
              have HJ := hide hkl
              have HGK := hide hg
              have hcy := hg.cell hck
              obtain ⟨H0, hH0⟩ : ∃ H0, hldX cs L y = H0 := ⟨_, rfl⟩
              rw [hH0] at HHO HHI HHL hst
              obtain ⟨m1, hm1⟩ : ∃ m1, H0.length = m1 := ⟨_, rfl⟩
              have HM1 := hide hm1
              rw [hm1] at HHO
              obtain ⟨D, hD⟩ : ∃ D, ldk cs L (true || x.fin) xs t k = D := ⟨_, rfl⟩
              rw [hD] at hst ⊢
              have HST2 := hide hst
              clear hg hk hkl hck hmk hy hax hH0 hm1 hD hst
              go_wp2_with fail
              refine HAI.out.mono ?_
              rintro e w10 ⟨rfl, c10⟩
              dsimp only
              replace hcy := c10.cell hcy
              have hct := HCI.out _ (HGK.out.trans c10)
              have HG10 := hide (HGK.out.trans c10)
              have HHO2 := hide (fun W (g : Grow w10 W) => HHO.out W (c10.trans g))
              have HCC := hide (fun W (g : Grow w10 W) => (⟨g.cell hct, g.cell hcy⟩ : W.cell? ⟨gl, i, none⟩ = some (.int .i64 t) ∧ W.cell? ⟨gl, k, none⟩ = some (.int .i64 y)))
              have hin1 : i < n1 := HK.out
              have hkn1 : k < n1 := HJ.out
              clear c10 HAI HHO
              cases D with
              | true =>
                as_aux_lemma =>
                go_wp2_with fail
                go_quiet (fail)
                have HY := hide (HG10.out.drewN nq)
                clear HG10 hcy hct HHO2 HCC hin1 hkn1
                go_wp2
                go_roundw
                case rel => exact ⟨k + 1, HJ.out, rfl, by rw [HST2.out]; rfl, HY.out⟩
                case measure => have := HJ.out; simp [Go.RowKit.intOf]; omega
              | false =>
                cases ha1 : decide (at1 = t) with
                | true =>
                  as_aux_lemma =>
                  have q6 : (at1 == t) = true := by simpa using ha1
                  rw [ha1] at HST2
                  clear ha1
                  go_wp2_with fail
                  go_quiet (fail)
                  have HY := hide (HG10.out.drewN nq)
                  clear HG10 hcy hct HHO2 HCC hin1 hkn1 q6
                  go_wp2
                  go_roundw
                  case rel => exact ⟨k + 1, HJ.out, rfl, by rw [HST2.out]; rfl, HY.out⟩
                  case measure => have := HJ.out; simp [Go.RowKit.intOf]; omega
                | false =>
                  have q6 : (at1 == t) = false := by simpa using ha1
                  rw [ha1] at HST2
                  clear ha1
                  go_wp2_with fail
                  go_region_held3 (fun W => W.cell? ⟨gl, i, none⟩ = some (.int .i64 t) ∧ W.cell? ⟨gl, k, none⟩ = some (.int .i64 y)) (first | exact ⟨hct, hcy⟩ | (refine HCC.out _ ?_ <;> (repeat (first | exact Chg.refl _ _ | exact c11 | exact c12 | exact c11.trans c12 | exact Chg.trans (Chg.drew (Chg.refl _ _)) c11 | exact Chg.trans (Chg.trans (Chg.drew (Chg.refl _ _)) c11) c12 | refine Chg.drew ?_ | refine Chg.alloc ?_ _)))) (first | (go_at_call 19; refine Calls.mono (HHO2.out _ (by (repeat (first | exact Chg.refl _ _ | refine Chg.drew ?_)))) ?_; rintro e w11 ⟨hla, hcl, rfl, ho11, c11⟩) | (go_at_call 18; refine Calls.mono (has_n (own_cast ho11 HM1.out.symm) HM1.out HHI.out HHL.out t) ?_; rintro e w12 ⟨rfl, c12⟩))
                  have HY := hide (show Grow w5 w12 from HG10.out.trans (by first | exact c11.trans c12 | exact (Chg.trans (Chg.drew (Chg.refl _ _)) c11).trans c12 | exact (Chg.trans (Chg.drew (Chg.refl _ _)) c11).trans (Chg.trans (Chg.drew (Chg.refl _ _)) c12) | exact c11.trans (Chg.trans (Chg.drew (Chg.refl _ _)) c12)))
                  generalize hasB H0 t = B at *
                  clear HG10 hcy hct HHO2 HCC hin1 hkn1 q6 c11 c12 ho11
                  go_wp2
                  go_roundw
                  case rel => exact ⟨k + 1, HJ.out, rfl, by rw [HST2.out]; rfl, by first | exact HY.out | exact HY.out.drew⟩
                  case measure => have := HJ.out; simp [Go.RowKit.intOf]; omega
        | false =>
          go_wp2_with fail
          go_loopw [14, 77] (fun v u wr => ∃ k : Nat, k ≤ n1 ∧ u = .int .i64 k ∧ v = .bool (ldk cs L (false || x.fin) xs t k) ∧ Grow w5 wr) (fun _ u _ => n1 - (Go.RowKit.intOf u).toNat)
          case atStart => exact ⟨0, Nat.zero_le _, rfl, by simp [ldk], HG9.out⟩
          case round =>
            clear HG9 x4 HXB
            obtain ⟨k, hk, rfl, rfl, hg⟩ := hrel
            rcases Nat.eq_or_lt_of_le hk with hke | hkl
            · have hke2 := hke.symm
              subst hke2
              rw [HEND.out]
              have q5 : decide ((n1 : Int) < n1) = false := by simp
              have HY := hide hg
              clear hg hk hke
              go_wp2
              go_roundw
              case rel => exact ⟨i + 1, HK.out, rfl, HY.out⟩
              case measure => have := HK.out; simp [Go.RowKit.intOf]; omega
            · have q5 : decide ((k : Int) < n1) = true := decide_eq_true (by omega)
              have hwk : IntKind.i64.wrap ((k : Int) + 1) = ((k + 1 : Nat) : Int) := (IntWalk.i64_in _ (by omega)).trans (by omega)
              obtain ⟨gl2, hla2, -, -, -, hck⟩ := L9.own_at (own_cast HO5.out HN1.out) hkl
              injection hla2 with hla2
              injection hla2 with hla2
              subst hla2
              have hmk := getD_mem (xs := xs) (j := k) (by rw [HN1.out]; exact hkl)
              have hyi := HL1.out.1 _ hmk
              have hst := ldk_step (cs := cs) (L := L) (b0 := (false || x.fin)) (xs := xs) (t := t) (k := k) (by rw [HN1.out]; exact hkl)
              obtain ⟨y, hy⟩ : ∃ y, xs.getD k 0 = y := ⟨_, rfl⟩
              rw [hy] at hck hmk hyi hst
              have HCK := hide (fun W (g : Grow w5 W) => g.cell hck)
              have HAI := hide (L9.aim_gs (HS5.out.grow hg).gs hyi)
              have HHO := hide (fun W (g : Grow wr W) => L9.holds_gs ((HS5.out.grow hg).grow g).gs hyi)
              have HHI := hide (show ∀ j ∈ hldX cs L y, In64 j from fun j hj => by
                cases hny : nd L y with
                | none => rw [hld_none hny] at hj; cases hj
                | some z => exact (HS5.out.gs.ok (nd_some hny).1).rw_ j (hld_mem hny hj).1)
              have HHL := hide (show (hldX cs L y).length ≤ 1000000 from by
                cases hny : nd L y with
                | none => rw [hld_none hny]; simp
                | some z => unfold hldX; rw [hny]; have h2 := L9.hld_len (isRf (L9.kd (clAt cs z.c))) z.refs; have h3 := (HS5.out.gs.ok (nd_some hny).1).rl; show (L9.hld _ z.refs).length ≤ _; omega)
              obtain ⟨⟨at1, ak1⟩, hax⟩ : ∃ pr : Int × Int, aimX cs L y = pr := ⟨_, rfl⟩
              rw [hax] at HAI hst
              have HJ := hide hkl
              have HGK := hide hg
              have hcy := hg.cell hck
              obtain ⟨H0, hH0⟩ : ∃ H0, hldX cs L y = H0 := ⟨_, rfl⟩
              rw [hH0] at HHO HHI HHL hst
              obtain ⟨m1, hm1⟩ : ∃ m1, H0.length = m1 := ⟨_, rfl⟩
              have HM1 := hide hm1
              rw [hm1] at HHO
              obtain ⟨D, hD⟩ : ∃ D, ldk cs L (false || x.fin) xs t k = D := ⟨_, rfl⟩
              rw [hD] at hst ⊢
              have HST2 := hide hst
              clear hg hk hkl hck hmk hy hax hH0 hm1 hD hst
              go_wp2_with fail
              refine HAI.out.mono ?_
              rintro e w10 ⟨rfl, c10⟩
              dsimp only
              replace hcy := c10.cell hcy
              have hct := HCI.out _ (HGK.out.trans c10)
              have HG10 := hide (HGK.out.trans c10)
              have HHO2 := hide (fun W (g : Grow w10 W) => HHO.out W (c10.trans g))
              have HCC := hide (fun W (g : Grow w10 W) => (⟨g.cell hct, g.cell hcy⟩ : W.cell? ⟨gl, i, none⟩ = some (.int .i64 t) ∧ W.cell? ⟨gl, k, none⟩ = some (.int .i64 y)))
              have hin1 : i < n1 := HK.out
              have hkn1 : k < n1 := HJ.out
              clear c10 HAI HHO
              cases D with
              | true =>
                as_aux_lemma =>
                go_wp2_with fail
                go_quiet (fail)
                have HY := hide (HG10.out.drewN nq)
                clear HG10 hcy hct HHO2 HCC hin1 hkn1
                go_wp2
                go_roundw
                case rel => exact ⟨k + 1, HJ.out, rfl, by rw [HST2.out]; rfl, HY.out⟩
                case measure => have := HJ.out; simp [Go.RowKit.intOf]; omega
              | false =>
                cases ha1 : decide (at1 = t) with
                | true =>
                  as_aux_lemma =>
                  have q6 : (at1 == t) = true := by simpa using ha1
                  rw [ha1] at HST2
                  clear ha1
                  go_wp2_with fail
                  go_quiet (fail)
                  have HY := hide (HG10.out.drewN nq)
                  clear HG10 hcy hct HHO2 HCC hin1 hkn1 q6
                  go_wp2
                  go_roundw
                  case rel => exact ⟨k + 1, HJ.out, rfl, by rw [HST2.out]; rfl, HY.out⟩
                  case measure => have := HJ.out; simp [Go.RowKit.intOf]; omega
                | false =>
                  have q6 : (at1 == t) = false := by simpa using ha1
                  rw [ha1] at HST2
                  clear ha1
                  go_wp2_with fail
                  go_region_held3 (fun W => W.cell? ⟨gl, i, none⟩ = some (.int .i64 t) ∧ W.cell? ⟨gl, k, none⟩ = some (.int .i64 y)) (first | exact ⟨hct, hcy⟩ | (refine HCC.out _ ?_ <;> (repeat (first | exact Chg.refl _ _ | exact c11 | exact c12 | exact c11.trans c12 | exact Chg.trans (Chg.drew (Chg.refl _ _)) c11 | exact Chg.trans (Chg.trans (Chg.drew (Chg.refl _ _)) c11) c12 | refine Chg.drew ?_ | refine Chg.alloc ?_ _)))) (first | (go_at_call 19; refine Calls.mono (HHO2.out _ (by (repeat (first | exact Chg.refl _ _ | refine Chg.drew ?_)))) ?_; rintro e w11 ⟨hla, hcl, rfl, ho11, c11⟩) | (go_at_call 18; refine Calls.mono (has_n (own_cast ho11 HM1.out.symm) HM1.out HHI.out HHL.out t) ?_; rintro e w12 ⟨rfl, c12⟩))
                  have HY := hide (show Grow w5 w12 from HG10.out.trans (by first | exact c11.trans c12 | exact (Chg.trans (Chg.drew (Chg.refl _ _)) c11).trans c12 | exact (Chg.trans (Chg.drew (Chg.refl _ _)) c11).trans (Chg.trans (Chg.drew (Chg.refl _ _)) c12) | exact c11.trans (Chg.trans (Chg.drew (Chg.refl _ _)) c12)))
                  generalize hasB H0 t = B at *
                  clear HG10 hcy hct HHO2 HCC hin1 hkn1 q6 c11 c12 ho11
                  go_wp2
                  go_roundw
                  case rel => exact ⟨k + 1, HJ.out, rfl, by rw [HST2.out]; rfl, by first | exact HY.out | exact HY.out.drew⟩
                  case measure => have := HJ.out; simp [Go.RowKit.intOf]; omega
  · have q2 : decide (lev ≥ 1) = false := decide_eq_false hlv
    clear hlv
    have HG := hide (Chg.refl (fun _ => False) w5)
    go_wp2_with fail
    go_loopw [53] (fun v wr => ∃ i : Nat, i ≤ n1 ∧ v = .int .i64 i ∧ Grow w5 wr) (fun v _ => n1 - (Go.RowKit.intOf v).toNat)
    case atStart => exact ⟨0, Nat.zero_le _, rfl, HG.out⟩
    case round =>
      clear HG
      obtain ⟨i, hi, rfl, hg⟩ := hrel
      rcases Nat.eq_or_lt_of_le hi with hie | hil
      · have hie2 := hie.symm
        subst hie2
        have q3 : decide ((n1 : Int) < n1) = false := by simp
        have HE := hide (HS5.out.grow hg)
        clear hg hi hie
        go_wp2
        go_ret
        exact ⟨rfl, HE.out.end_⟩
      · have q3 : decide ((i : Int) < n1) = true := decide_eq_true (by omega)
        have hn6 : n1 ≤ 1000000 := by have := HL1.out.2; have := HN1.out; omega
        have hwi : IntKind.i64.wrap ((i : Int) + 1) = ((i + 1 : Nat) : Int) := (IntWalk.i64_in _ (by omega)).trans (by omega)
        obtain ⟨gl, hla, -, -, -, hci⟩ := L9.own_at (own_cast HO5.out HN1.out) hil
        subst hla
        have hm := getD_mem (xs := xs) (j := i) (by rw [HN1.out]; exact hil)
        have hti := HL1.out.1 _ hm
        have hled := HLED.out _ hm
        obtain ⟨x, hx⟩ := Option.ne_none_iff_exists'.1 ((HF.out _).1 (HM.out _ hm)).is_
        obtain ⟨t, ht⟩ : ∃ t, xs.getD i 0 = t := ⟨_, rfl⟩
        rw [ht] at hci hm hti hled hx
        have HCI := hide (fun W (g : Grow w5 W) => g.cell hci)
        have c1 := hg.cell hci
        have HND := hide (L9.node_yes (HS5.out.grow hg).gs hti hx)
        obtain ⟨b1, hb1⟩ : ∃ b1, hasB zs t = b1 := ⟨_, rfl⟩
        have HHR := hide (fun W (g : Grow wr W) => (L9.has_any ((HS5.out.grow hg).grow g).row t (by omega) : Calls Try.prog 18 _ W _))
        rw [hb1] at HHR
        have HEND := hide (show ldk cs L (b1 || x.fin) xs t n1 = true from ldk_all HN1.out (by
          rcases hled with h | ⟨y, hy, hyf⟩ | ⟨j, hj, h⟩
          · left; rw [← hb1, hasB_iff.2 h]; rfl
          · rw [hx] at hy; injection hy with hy; subst hy
            left; rw [hyf, Bool.or_true]
          · exact .inr ⟨j, HMB.out _ hj, h⟩))
        have HK := hide hil
        have HGR := hide hg
        have HT := hide (And.intro hti ht)
        clear hg hi hil hm hti hled hx ht hb1 hci
        go_wp2_with fail
        refine HND.out.mono ?_
        rintro e w8 ⟨ar, cr, ad, cd, rfl, -, c8⟩
        have gc := c8.alloc (.cells #[.int .i64 x.id, .int .i64 x.c, .slice ar x.refs.length cr, .slice ad x.data.length cd, .bool x.fin] 43)
        have HHR2 := hide (HHR.out _ gc)
        have hxb := (Blk.new w8 43 [.int .i64 x.id, .int .i64 x.c, .slice ar x.refs.length cr, .slice ad x.data.length cd, .bool x.fin]).cell 4
        replace c1 := gc.cell c1
        have HGC := hide (HGR.out.trans gc)
        have HXB := hide hxb
        clear c8 gc HHR hxb HND
        go_wp2_with fail
        refine HHR2.out.mono ?_
        rintro e w9 ⟨rfl, m9, rfl⟩
        have x4 := HXB.out
        have HG9 := hide (HGC.out.drewN m9)
        clear HHR2 c1 HGC
        have HLE := hide (show b1 = true → (b1 || x.fin) = true from fun h => by rw [h]; rfl)
        cases b1 with
        | true =>
          go_wp2_with fail
          go_loopw [14, 77] (fun v u wr => ∃ k : Nat, k ≤ n1 ∧ u = .int .i64 k ∧ v = .bool (ldk cs L (true || x.fin) xs t k) ∧ Grow w5 wr) (fun _ u _ => n1 - (Go.RowKit.intOf u).toNat)
          case atStart => exact ⟨0, Nat.zero_le _, rfl, by simp [ldk], HG9.out⟩
          case round =>
            clear HG9 x4 HXB
            obtain ⟨k, hk, rfl, rfl, hg⟩ := hrel
            rcases Nat.eq_or_lt_of_le hk with hke | hkl
            · have hke2 := hke.symm
              subst hke2
              rw [HEND.out]
              have q5 : decide ((n1 : Int) < n1) = false := by simp
              have HY := hide hg
              clear hg hk hke
              go_wp2
              go_roundw
              case rel => exact ⟨i + 1, HK.out, rfl, HY.out⟩
              case measure => have := HK.out; simp [Go.RowKit.intOf]; omega
            · have q5 : decide ((k : Int) < n1) = true := decide_eq_true (by omega)
              have hwk : IntKind.i64.wrap ((k : Int) + 1) = ((k + 1 : Nat) : Int) := (IntWalk.i64_in _ (by omega)).trans (by omega)
              obtain ⟨gl2, hla2, -, -, -, hck⟩ := L9.own_at (own_cast HO5.out HN1.out) hkl
              injection hla2 with hla2
              injection hla2 with hla2
              subst hla2
              have hmk := getD_mem (xs := xs) (j := k) (by rw [HN1.out]; exact hkl)
              have hyi := HL1.out.1 _ hmk
              have hst := ldk_step (cs := cs) (L := L) (b0 := (true || x.fin)) (xs := xs) (t := t) (k := k) (by rw [HN1.out]; exact hkl)
              obtain ⟨y, hy⟩ : ∃ y, xs.getD k 0 = y := ⟨_, rfl⟩
              rw [hy] at hck hmk hyi hst
              have HCK := hide (fun W (g : Grow w5 W) => g.cell hck)
              have HAI := hide (L9.aim_gs (HS5.out.grow hg).gs hyi)
              have HHO := hide (fun W (g : Grow wr W) => L9.holds_gs ((HS5.out.grow hg).grow g).gs hyi)
              have HHI := hide (show ∀ j ∈ hldX cs L y, In64 j from fun j hj => by
                cases hny : nd L y with
                | none => rw [hld_none hny] at hj; cases hj
                | some z => exact (HS5.out.gs.ok (nd_some hny).1).rw_ j (hld_mem hny hj).1)
              have HHL := hide (show (hldX cs L y).length ≤ 1000000 from by
                cases hny : nd L y with
                | none => rw [hld_none hny]; simp
                | some z => unfold hldX; rw [hny]; have h2 := L9.hld_len (isRf (L9.kd (clAt cs z.c))) z.refs; have h3 := (HS5.out.gs.ok (nd_some hny).1).rl; show (L9.hld _ z.refs).length ≤ _; omega)
              obtain ⟨⟨at1, ak1⟩, hax⟩ : ∃ pr : Int × Int, aimX cs L y = pr := ⟨_, rfl⟩
              rw [hax] at HAI hst
              have HJ := hide hkl
              have HGK := hide hg
              have hcy := hg.cell hck
              obtain ⟨H0, hH0⟩ : ∃ H0, hldX cs L y = H0 := ⟨_, rfl⟩
              rw [hH0] at HHO HHI HHL hst
              obtain ⟨m1, hm1⟩ : ∃ m1, H0.length = m1 := ⟨_, rfl⟩
              have HM1 := hide hm1
              rw [hm1] at HHO
              obtain ⟨D, hD⟩ : ∃ D, ldk cs L (true || x.fin) xs t k = D := ⟨_, rfl⟩
              rw [hD] at hst ⊢
              have HST2 := hide hst
              clear hg hk hkl hck hmk hy hax hH0 hm1 hD hst
              go_wp2_with fail
              refine HAI.out.mono ?_
              rintro e w10 ⟨rfl, c10⟩
              dsimp only
              replace hcy := c10.cell hcy
              have hct := HCI.out _ (HGK.out.trans c10)
              have HG10 := hide (HGK.out.trans c10)
              have HHO2 := hide (fun W (g : Grow w10 W) => HHO.out W (c10.trans g))
              have HCC := hide (fun W (g : Grow w10 W) => (⟨g.cell hct, g.cell hcy⟩ : W.cell? ⟨gl, i, none⟩ = some (.int .i64 t) ∧ W.cell? ⟨gl, k, none⟩ = some (.int .i64 y)))
              have hin1 : i < n1 := HK.out
              have hkn1 : k < n1 := HJ.out
              clear c10 HAI HHO
              cases D with
              | true =>
                as_aux_lemma =>
                go_wp2_with fail
                go_quiet (fail)
                have HY := hide (HG10.out.drewN nq)
                clear HG10 hcy hct HHO2 HCC hin1 hkn1
                go_wp2
                go_roundw
                case rel => exact ⟨k + 1, HJ.out, rfl, by rw [HST2.out]; rfl, HY.out⟩
                case measure => have := HJ.out; simp [Go.RowKit.intOf]; omega
              | false =>
                cases ha1 : decide (at1 = t) with
                | true =>
                  as_aux_lemma =>
                  have q6 : (at1 == t) = true := by simpa using ha1
                  rw [ha1] at HST2
                  clear ha1
                  go_wp2_with fail
                  go_quiet (fail)
                  have HY := hide (HG10.out.drewN nq)
                  clear HG10 hcy hct HHO2 HCC hin1 hkn1 q6
                  go_wp2
                  go_roundw
                  case rel => exact ⟨k + 1, HJ.out, rfl, by rw [HST2.out]; rfl, HY.out⟩
                  case measure => have := HJ.out; simp [Go.RowKit.intOf]; omega
                | false =>
                  have q6 : (at1 == t) = false := by simpa using ha1
                  rw [ha1] at HST2
                  clear ha1
                  go_wp2_with fail
                  go_region_held3 (fun W => W.cell? ⟨gl, i, none⟩ = some (.int .i64 t) ∧ W.cell? ⟨gl, k, none⟩ = some (.int .i64 y)) (first | exact ⟨hct, hcy⟩ | (refine HCC.out _ ?_ <;> (repeat (first | exact Chg.refl _ _ | exact c11 | exact c12 | exact c11.trans c12 | exact Chg.trans (Chg.drew (Chg.refl _ _)) c11 | exact Chg.trans (Chg.trans (Chg.drew (Chg.refl _ _)) c11) c12 | refine Chg.drew ?_ | refine Chg.alloc ?_ _)))) (first | (go_at_call 19; refine Calls.mono (HHO2.out _ (by (repeat (first | exact Chg.refl _ _ | refine Chg.drew ?_)))) ?_; rintro e w11 ⟨hla, hcl, rfl, ho11, c11⟩) | (go_at_call 18; refine Calls.mono (has_n (own_cast ho11 HM1.out.symm) HM1.out HHI.out HHL.out t) ?_; rintro e w12 ⟨rfl, c12⟩))
                  have HY := hide (show Grow w5 w12 from HG10.out.trans (by first | exact c11.trans c12 | exact (Chg.trans (Chg.drew (Chg.refl _ _)) c11).trans c12 | exact (Chg.trans (Chg.drew (Chg.refl _ _)) c11).trans (Chg.trans (Chg.drew (Chg.refl _ _)) c12) | exact c11.trans (Chg.trans (Chg.drew (Chg.refl _ _)) c12)))
                  generalize hasB H0 t = B at *
                  clear HG10 hcy hct HHO2 HCC hin1 hkn1 q6 c11 c12 ho11
                  go_wp2
                  go_roundw
                  case rel => exact ⟨k + 1, HJ.out, rfl, by rw [HST2.out]; rfl, by first | exact HY.out | exact HY.out.drew⟩
                  case measure => have := HJ.out; simp [Go.RowKit.intOf]; omega
        | false =>
          go_wp2_with fail
          go_loopw [14, 77] (fun v u wr => ∃ k : Nat, k ≤ n1 ∧ u = .int .i64 k ∧ v = .bool (ldk cs L (false || x.fin) xs t k) ∧ Grow w5 wr) (fun _ u _ => n1 - (Go.RowKit.intOf u).toNat)
          case atStart => exact ⟨0, Nat.zero_le _, rfl, by simp [ldk], HG9.out⟩
          case round =>
            clear HG9 x4 HXB
            obtain ⟨k, hk, rfl, rfl, hg⟩ := hrel
            rcases Nat.eq_or_lt_of_le hk with hke | hkl
            · have hke2 := hke.symm
              subst hke2
              rw [HEND.out]
              have q5 : decide ((n1 : Int) < n1) = false := by simp
              have HY := hide hg
              clear hg hk hke
              go_wp2
              go_roundw
              case rel => exact ⟨i + 1, HK.out, rfl, HY.out⟩
              case measure => have := HK.out; simp [Go.RowKit.intOf]; omega
            · have q5 : decide ((k : Int) < n1) = true := decide_eq_true (by omega)
              have hwk : IntKind.i64.wrap ((k : Int) + 1) = ((k + 1 : Nat) : Int) := (IntWalk.i64_in _ (by omega)).trans (by omega)
              obtain ⟨gl2, hla2, -, -, -, hck⟩ := L9.own_at (own_cast HO5.out HN1.out) hkl
              injection hla2 with hla2
              injection hla2 with hla2
              subst hla2
              have hmk := getD_mem (xs := xs) (j := k) (by rw [HN1.out]; exact hkl)
              have hyi := HL1.out.1 _ hmk
              have hst := ldk_step (cs := cs) (L := L) (b0 := (false || x.fin)) (xs := xs) (t := t) (k := k) (by rw [HN1.out]; exact hkl)
              obtain ⟨y, hy⟩ : ∃ y, xs.getD k 0 = y := ⟨_, rfl⟩
              rw [hy] at hck hmk hyi hst
              have HCK := hide (fun W (g : Grow w5 W) => g.cell hck)
              have HAI := hide (L9.aim_gs (HS5.out.grow hg).gs hyi)
              have HHO := hide (fun W (g : Grow wr W) => L9.holds_gs ((HS5.out.grow hg).grow g).gs hyi)
              have HHI := hide (show ∀ j ∈ hldX cs L y, In64 j from fun j hj => by
                cases hny : nd L y with
                | none => rw [hld_none hny] at hj; cases hj
                | some z => exact (HS5.out.gs.ok (nd_some hny).1).rw_ j (hld_mem hny hj).1)
              have HHL := hide (show (hldX cs L y).length ≤ 1000000 from by
                cases hny : nd L y with
                | none => rw [hld_none hny]; simp
                | some z => unfold hldX; rw [hny]; have h2 := L9.hld_len (isRf (L9.kd (clAt cs z.c))) z.refs; have h3 := (HS5.out.gs.ok (nd_some hny).1).rl; show (L9.hld _ z.refs).length ≤ _; omega)
              obtain ⟨⟨at1, ak1⟩, hax⟩ : ∃ pr : Int × Int, aimX cs L y = pr := ⟨_, rfl⟩
              rw [hax] at HAI hst
              have HJ := hide hkl
              have HGK := hide hg
              have hcy := hg.cell hck
              obtain ⟨H0, hH0⟩ : ∃ H0, hldX cs L y = H0 := ⟨_, rfl⟩
              rw [hH0] at HHO HHI HHL hst
              obtain ⟨m1, hm1⟩ : ∃ m1, H0.length = m1 := ⟨_, rfl⟩
              have HM1 := hide hm1
              rw [hm1] at HHO
              obtain ⟨D, hD⟩ : ∃ D, ldk cs L (false || x.fin) xs t k = D := ⟨_, rfl⟩
              rw [hD] at hst ⊢
              have HST2 := hide hst
              clear hg hk hkl hck hmk hy hax hH0 hm1 hD hst
              go_wp2_with fail
              refine HAI.out.mono ?_
              rintro e w10 ⟨rfl, c10⟩
              dsimp only
              replace hcy := c10.cell hcy
              have hct := HCI.out _ (HGK.out.trans c10)
              have HG10 := hide (HGK.out.trans c10)
              have HHO2 := hide (fun W (g : Grow w10 W) => HHO.out W (c10.trans g))
              have HCC := hide (fun W (g : Grow w10 W) => (⟨g.cell hct, g.cell hcy⟩ : W.cell? ⟨gl, i, none⟩ = some (.int .i64 t) ∧ W.cell? ⟨gl, k, none⟩ = some (.int .i64 y)))
              have hin1 : i < n1 := HK.out
              have hkn1 : k < n1 := HJ.out
              clear c10 HAI HHO
              cases D with
              | true =>
                as_aux_lemma =>
                go_wp2_with fail
                go_quiet (fail)
                have HY := hide (HG10.out.drewN nq)
                clear HG10 hcy hct HHO2 HCC hin1 hkn1
                go_wp2
                go_roundw
                case rel => exact ⟨k + 1, HJ.out, rfl, by rw [HST2.out]; rfl, HY.out⟩
                case measure => have := HJ.out; simp [Go.RowKit.intOf]; omega
              | false =>
                cases ha1 : decide (at1 = t) with
                | true =>
                  as_aux_lemma =>
                  have q6 : (at1 == t) = true := by simpa using ha1
                  rw [ha1] at HST2
                  clear ha1
                  go_wp2_with fail
                  go_quiet (fail)
                  have HY := hide (HG10.out.drewN nq)
                  clear HG10 hcy hct HHO2 HCC hin1 hkn1 q6
                  go_wp2
                  go_roundw
                  case rel => exact ⟨k + 1, HJ.out, rfl, by rw [HST2.out]; rfl, HY.out⟩
                  case measure => have := HJ.out; simp [Go.RowKit.intOf]; omega
                | false =>
                  have q6 : (at1 == t) = false := by simpa using ha1
                  rw [ha1] at HST2
                  clear ha1
                  go_wp2_with fail
                  go_region_held3 (fun W => W.cell? ⟨gl, i, none⟩ = some (.int .i64 t) ∧ W.cell? ⟨gl, k, none⟩ = some (.int .i64 y)) (first | exact ⟨hct, hcy⟩ | (refine HCC.out _ ?_ <;> (repeat (first | exact Chg.refl _ _ | exact c11 | exact c12 | exact c11.trans c12 | exact Chg.trans (Chg.drew (Chg.refl _ _)) c11 | exact Chg.trans (Chg.trans (Chg.drew (Chg.refl _ _)) c11) c12 | refine Chg.drew ?_ | refine Chg.alloc ?_ _)))) (first | (go_at_call 19; refine Calls.mono (HHO2.out _ (by (repeat (first | exact Chg.refl _ _ | refine Chg.drew ?_)))) ?_; rintro e w11 ⟨hla, hcl, rfl, ho11, c11⟩) | (go_at_call 18; refine Calls.mono (has_n (own_cast ho11 HM1.out.symm) HM1.out HHI.out HHL.out t) ?_; rintro e w12 ⟨rfl, c12⟩))
                  have HY := hide (show Grow w5 w12 from HG10.out.trans (by first | exact c11.trans c12 | exact (Chg.trans (Chg.drew (Chg.refl _ _)) c11).trans c12 | exact (Chg.trans (Chg.drew (Chg.refl _ _)) c11).trans (Chg.trans (Chg.drew (Chg.refl _ _)) c12) | exact c11.trans (Chg.trans (Chg.drew (Chg.refl _ _)) c12)))
                  generalize hasB H0 t = B at *
                  clear HG10 hcy hct HHO2 HCC hin1 hkn1 q6 c11 c12 ho11
                  go_wp2
                  go_roundw
                  case rel => exact ⟨k + 1, HJ.out, rfl, by rw [HST2.out]; rfl, by first | exact HY.out | exact HY.out.drew⟩
                  case measure => have := HJ.out; simp [Go.RowKit.intOf]; omega
theorem walk (u : Wo) (cs : List Cl) (ns : List Int) (ts : List Tr) (a1 : Option Addr) (len1 cap1 : Nat) (zs : List Int) (lev : Int) (w : World) (h0 : IsWo w u cs ns ts) (h1 : IsRow .i64 w a1 len1 cap1 zs) (h2 : (Lit.int .i64 lev).wf = true) :
    Calls Try.prog 7 #[Wo.v u, .slice a1 len1 cap1, .int .i64 lev] w fun e w' => e = .returned (.bool true) ∧ Below w.heap.size w w' := by
  by_cases hg : good u cs
  · by_cases hl : 40 < len1
    · exact walk_no h0 h1 (.inr ⟨hg, hl⟩)
    · exact walk_main h0 h1 hg (by omega) h2
  · exact walk_no h0 h1 (.inl hg)
end
theorem own : ownKnob Try.prog.godebug = none := by kernel_rfl
theorem laidOut : laidOutB Try.prog = true := by kernel_rfl

set_option maxRecDepth 100000 in
theorem lifted (os : Os) (started : os.Started) (H : Type) (enc : TypeId × Value → H) :
    ReturnsInHanded {} Try.checked os 7 .any (Rows.strengthClosesSpec.pre6 enc Try.prog Try.f7 Rows.strengthClosesRow.domain false) (Rows.strengthClosesSpec.post enc Try.prog Try.f7 false true false false) := by
  refine returnsInHanded_of_change (C := Try.checked) own started (by kernel_rfl) Try.func7
    (ChangeSpec.witness6 (enc := enc) (C := Try.checked) false ⟨#[], #[.agg #[.slice none 0 0, .slice none 0 0, .slice none 0 0], .slice none 0 0, .int .i64 0], []⟩ 8 (by kernel_rfl) (by kernel_rfl) (by kernel_rfl) (by kernel_rfl)) ?_
  intro W base args ds gs before hval0 hW hcnd _
  have hval : ∀ (j : Nat) t v, Try.f7.params[j]? = some t → args[j]? = some v → Value.okWide Try.prog W .any base t v := hval0
  have hW' := hW
  obtain ⟨p, q, hA0, hV, rfl, hfz, hnd⟩ := hW
  have hA : DataW.TrodAll enc Try.prog W 0 (fun _ => true) true Try.f7.params.toList args.toList ds p := hA0
  rw [Try.params7] at hA hval
  obtain ⟨v0, vs0, d0, ds0, p0, q0, hargs, rfl, rfl, h0, r0⟩ := trodAll_cons hA
  obtain ⟨v1, vs1, d1, ds1, p1, q1, rfl, rfl, rfl, h1, r1⟩ := trodAll_cons r0
  obtain ⟨v2, vs2, d2, ds2, p2, q2, rfl, rfl, rfl, h2, r2⟩ := trodAll_cons r1
  obtain ⟨rfl, rfl, rfl⟩ := trodAll_nil r2
  obtain rfl : args = #[v0, v1, v2] := by cases args; simp_all
  obtain ⟨rfl, rfl⟩ := trodVars_none hV
  have k0 := h0
  have lt0 : ∀ x ∈ p0, x.block < W.heap.size := by obtain ⟨m, hm⟩ := k0; exact DataW.trod_lt m _ _ _ hm
  obtain ⟨u0, cs0, ns0, ts0, rfl, w0⟩ := open_world (hval 0 26 v0 rfl rfl) h0
  obtain ⟨a1, len1, cap1, rfl⟩ := okWide_slice Try.underlying27 (hval 1 27 v1 rfl rfl)
  have k1 := h1
  have lt1 : ∀ x ∈ p1, x.block < W.heap.size := by obtain ⟨m, hm⟩ := k1; exact DataW.trod_lt m _ _ _ hm
  obtain ⟨z1, w1⟩ : ∃ zs, IsRow .i64 W a1 len1 cap1 zs := open_row Try.underlying27 Try.underlying3 (by kernel_rfl) h1
  obtain ⟨a2, rfl, rfl, rfl, w2⟩ := open_int Try.underlying3 (hval 2 3 v2 rfl rfl) h2
  clear hA0 hval0
  refine (walk u0 cs0 ns0 ts0 a1 len1 cap1 z1 a2 W w0 w1 w2).mono fun e W' ⟨he, bel⟩ => ?_
  subst he
  exact ⟨_, rfl, _, _, _, [], _, [], hW', trodAll_mk1 (shut_bool Try.underlying4 _), (trodAll_cons_mk (Below.trod laidOut (by kernel_rfl) (of_decide_eq_true (by kernel_rfl)) k0 bel lt0) (trodAll_cons_mk (Below.trod laidOut (by kernel_rfl) (of_decide_eq_true (by kernel_rfl)) k1 bel lt1) (trodAll_cons_mk (shut_int Try.underlying3 w2) trodAll_mk0))), rfl, bel.frame _, fun h => by cases h⟩

theorem over : Rows.strengthClosesRow.holds Try.pinned (OpenSpec.ofChange Rows.strengthClosesSpec) :=
  OpenClaim.holds_of_wide 7 Try.f7 rfl rfl rfl rfl rfl rfl rfl ⟨rfl, rfl, rfl, rfl, rfl⟩ rfl rfl rfl rfl rfl (by kernel_rfl) Try.func7 (by kernel_rfl)
    (of_decide_eq_true (by kernel_rfl)) (by unfold Func.isWrapper; first | (rw [if_pos (by decide +kernel)]; kernel_rfl) | (rw [if_neg (by decide +kernel)]; exact ⟨rfl, rfl⟩))
    (fun os started H enc _ => lifted os started H enc)

/-- The statement. -/
theorem proved : Rows.StrengthClosesSaid := over
#print axioms proved
end Go.Proofs.Ytfiopfeejdmcoaa.strengthCloses

