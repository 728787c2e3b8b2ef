/- For all arguments ScavengeAges answers true: done again and again, with what is reached going on, all is old behind one more than the threshold, as long as there is room; and it is as it was. Conditions: the table of math/bits.TrailingZeros64 is as the program's text lays it, which the card ties. -/
import Derived.Test.YtogfjclmohpjkaaGreatDoorL15KA
import Derived.Test.YtogfjclmohpjkaaGreatDoorCards
import Derived.Test.YtogfjclmohpjkaaGreatDoorTie
import Derived.SevenTiedAt
import Derived.Stop.Joined
import Derived.ShutString
namespace Go.Proofs.YtogfjclmohpjkaaGreatDoor.scavengeAges
open Go.ChangeShapes Go.WideShapes Go.ChangeAt Go.RowKit Go.Deep Go.Proofs.YtogfjclmohpjkaaGreatDoor.L15
open Go.Proofs.YtogfjclmohpjkaaGreatDoor.L1 (ptr Ar)
open Go.Proofs.YtogfjclmohpjkaaGreatDoor.L5 (Cl IsCls newX Tb)
open Go.Proofs.YtogfjclmohpjkaaGreatDoor.L6 (stV St)
open Go.Proofs.YtogfjclmohpjkaaGreatDoor.L7 (Ct tset tb_touch inn cd isd)
open Go.Proofs.YtogfjclmohpjkaaGreatDoor.L3 (no)
set_option linter.unusedVariables false
set_option maxRecDepth 100000
/-- What stands when k runs are done. -/
structure Ag (k TH : Int) (f : Fx) (CAN : List Int) (S : Nat → Bool) : Prop where
  n : f.n = 1000
  lo : f.y.lo
  th : f.y.th = TH
  t7 : 0 ≤ TH ∧ TH ≤ 7
  ag : ∀ x ∈ f.YS, k ≤ (f.ob x).A
  zi : ∀ r ∈ f.zs, r = 0 ∨ r ∈ f.all
  cn : ∃ res, Rch f.ob f.zs res ∧ canL f.ob f.zs res = CAN
  en : TH < k → f.YS = [] ∧ f.y.ET = f.y.EF ∧ f.y.FT = f.y.FF ∧ S = no
section
variable {W W' : World} {f : Fx} {xs rs CAN : List Int} {z b g pc mc gc : Nat} {tp : Option Addr} {v : Value} {S : Nat → Bool} {s : Mst} {k TH : Int}
theorem Ag.next (a : Ag k TH f CAN S) (d : Sd W f xs z b tp g pc mc gc S) (R : Ran W W' { f with zs := f.zs } z b tp g pc mc gc 1 401 v rs s) :
    Ag (k + 1) TH (f.aft s rs) CAN (recS (f.y.aft s.ot s.tt) s.ob 1 401 (f.OS ++ s.PO)) := by
  obtain ⟨res, hr, hc⟩ := a.cn
  obtain ⟨c1, c2, c3⟩ := run_can (L := []) d.wf R a.zi (fun x hx => by cases hx) (by rw [List.append_nil]; exact hr)
  rw [List.append_nil] at c1
  rw [List.append_nil, List.append_nil, hc] at c2
  have h7 : f.y.th ≤ 7 := by rw [a.th]; exact a.t7.2
  refine ⟨a.n, a.lo.aft _ _, a.th, a.t7, fun x hx => ?_, run_memb d.wf R a.zi, ⟨_, c1, c2⟩, fun hk => ?_⟩
  · have hx' : x ∈ [] ++ s.LT := hx
    exact fin_age R.i a.ag h7 x hx'
  · have hl : s.LT = [] := fin_old R.i fun x hx => by
      have h1 := a.ag x hx
      have h2 : f.y.th = TH := a.th
      show f.y.th ≤ (f.ob x).A
      omega
    have ht : s.tt = f.y.TF := lt_nil R.i hl
    refine ⟨?_, rfl, ht, recS_no fun o => ld_none rfl ht o⟩
    show [] ++ s.LT = []
    rw [hl]; rfl
theorem _root_.Go.Proofs.YtogfjclmohpjkaaGreatDoor.L15.Sd.far {q : Nat} (d : Sd W f xs z b tp g pc mc gc S) (c : Chg (· = q) W W') (h1 : z ≤ q) (h2 : ¬ pc = q ∧ ¬ mc = q ∧ ¬ gc = q) : Sd W' f xs z b tp g pc mc gc S :=
  ⟨d.wf, d.lo.chg c (fun i e => e ▸ h1), d.ct.chg c h2.1 h2.2.1 h2.2.2, d.nb, d.zc, Nat.le_trans d.zw c.size, d.o⟩
theorem _root_.Go.Proofs.YtogfjclmohpjkaaGreatDoor.L15.Sd.reach {w : World} {fr res : List Int} {q zq fn fc cl cp : Nat} {ca fa : Option Addr} (d : Sd W f xs z b tp g pc mc gc S) (hn : f.n = 1000) (hl : f.y.lo) (hra : L1.RAr w q zq xs) (hc : IsCls w ca cl cp f.cs) (hf : L1.Rd w fa fn fr) (hfn : fn < 100000) (hfr : ∀ x ∈ fr, x = 0 ∨ x ∈ f.all) (hres : Rch f.ob fr res) :
    Calls Tryz.prog 18 #[rsV q ca cl cp, .slice fa fn fc] w fun e w' => ∃ v, e = .returned v ∧ OL w' w.heap.size v res ∧ Grow w w' := by
  have hx : xs.length = 1000 := d.wf.n.trans hn
  have hrs : Rs w q zq ca cl cp xs f.cs := ⟨hra, hc, by omega, d.wf.rt⟩
  refine reach_any (L := f.all) (fun W c x hx' => ?_) hf hfn hfr d.wf.cl (fun x hx' => ?_) (Nat.le_trans (d.wf.len3 hl) (by omega)) hres
  · have ha := d.wf.at_ hx'
    have h1 := ha.a1
    have h2 := d.wf.end_ hl hx'
    exact at_any (hrs.grow c) ha (by omega)
  · have := ((d.wf.at_ hx').ok.bd d.wf.rt).2.1
    unfold Ob.sz at this
    omega
theorem yg_sz : (Tryz.prog.info? 36).map (·.size) = some 13 := by kernel_rfl
theorem yg_one (y : Yg) : (y.cells.toArray).all (·.oneCell') = true := by simp [Value.oneCell']
end
set_option maxHeartbeats 20000000 in
theorem walk (u : Wo) (cs : List Cl) (gs : List Tg) (ts : List Tr) (zs : List Int) (w : World) (ht : L3.Tab w) (h : IsWo w u cs gs ts zs) :
    Calls Tryz.prog 4 #[Wo.v u] w fun e w' => e = .returned (.bool true) ∧ Below w.heap.size w w' := by
  obtain ⟨ca, cl, cc, ta, tl, tc, ra0, rl, rc0, za, zl, zc, hf, th⟩ := u
  obtain ⟨hb, gB, -⟩ := boxes1 w 27 [.slice ca cl cc, .slice ta tl tc, .slice ra0 rl rc0, .slice za zl zc, .int .u8 hf, .int .u8 th]
  have HTAB := hide ht
  have HU := hide (h.chg gB fun _ _ => id)
  have HG := hide gB
  obtain ⟨k0, k1, k2, k3, k4, k5⟩ := hb.cell6
  clear h gB ht
  go_enter Tryz.func4, Tryz.ntmps4
  go_wp2_with fail
  clear k0 k1 k2 k3 k4 k5 hb
  generalize w.alloc (.cells #[.slice ca cl cc, .slice ta tl tc, .slice ra0 rl rc0, .slice za zl zc, .int .u8 hf, .int .u8 th] 27) = w1 at *
  generalize w.heap.size = bw at *
  refine (made_any HU.out).mono ?_
  rintro e w3 ⟨CL, ok, rfl, hln, h21, hone, c3, hq⟩
  have HQ := hide hq
  have HG3 := hide (HG.out.trans c3)
  have HLN := hide hln
  have H21 := hide h21
  have HONE := hide hone
  have HBL := hide (Blk.new w3 40 lf0)
  clear hq c3 hln h21 hone
  go_upto_region 2 with (refine wpList_store_row rfl 40 _ _ rfl w3.heap.size CL.toArray (by rfl) (by rfl) 40 lf0.toArray HBL.out H21.out HLN.out HONE.out ?_)
  obtain ⟨hp, gp⟩ := new_life w3 CL
  clear HBL H21 HLN HONE
  generalize (w3.alloc (.cells lf0.toArray 40)).setRow w3.heap.size CL.toArray = w4 at *
  generalize hpe : w3.heap.size = p at *
  have HG4 := hide (HG3.out.trans gp)
  have HP4 := hide hp
  have HGP := hide gp
  have HPE := hide hpe
  clear hp gp hpe HG3
  go_wp2_with fail
  refine (awake_any _).mono ?_
  rintro e w5 ⟨rfl, c5⟩
  have HG5 := hide (HG4.out.trans c5)
  have HC5 := hide c5
  clear c5
  rcases HQ.out with ⟨rfl, -⟩ | ⟨rfl, hgd, xs, z, yl, b, tp, g, pc, mc, gc, av, rv, rfl, m⟩
  · skip
    go_wp2_with fail
    refine (awake_any _).mono ?_
    rintro e w6 ⟨rfl, c6⟩
    have HG6 := hide (HG5.out.trans c6)
    clear c6
    go_wp2
    go_ret
    exact ⟨rfl, HG6.out.below (fun _ _ h => h) (Nat.le_refl _)⟩
  have hp := HP4.out
  have hzn : ((finF cs (hf % 101) (th % 8) gs ts zs).zs).length = zl := by
    show (zs.map _).length = zl
    rw [List.length_map]
    exact HU.out.z.1
  have hcs : (finF cs (hf % 101) (th % 8) gs ts zs).cs = cs ∧ (finF cs (hf % 101) (th % 8) gs ts zs).y.th = th % 8 := fin_cs
  have hfn : (finF cs (hf % 101) (th % 8) gs ts zs).n = 1000 := m.bd.n
  have hz20 : zl ≤ 20 := hgd.2.2.1
  have htb := HU.out.tb
  obtain ⟨ra, rc, rfl, hrd⟩ := ((m.rl.grow HGP.out).grow HC5.out).form
  rw [hzn] at hrd hp
  dsimp only at m hp
  obtain ⟨F, hF⟩ : ∃ F, finF cs (hf % 101) (th % 8) gs ts zs = F := ⟨_, rfl⟩
  obtain ⟨A, hA⟩ : ∃ A, (fin0 cs (hf % 101) (th % 8) gs ts).zs = A := ⟨_, rfl⟩
  rw [hF] at m hp
  rw [hA] at m
  have HF := hide hF
  have HA := hide hA
  have HD := hide ((m.sd.grow HGP.out).grow HC5.out)
  have HM := hide m
  have HP5 := hide (hp.chg HC5.out id)
  have HNP := hide (show ¬ p = g ∧ ¬ p = gc ∧ w.heap.size ≤ g ∧ w.heap.size ≤ gc ∧ p < w5.heap.size from by
    have h1 := m.pl
    have h2 := m.lo.gz
    have h3 := HPE.out
    have h4 := HG.out.size
    have h5 := (hp.chg HC5.out id).lt
    exact ⟨by omega, by omega, by omega, by omega, h5⟩)
  clear hF hA m hp
  have HZN := hide (show F.zs.length = zl ∧ F.cs = cs ∧ F.n = 1000 ∧ zl ≤ 20 ∧ F.y.th = th % 8 ∧ (0 ≤ th % 8 ∧ th % 8 ≤ 7) from by rw [← HF.out]; dsimp only at htb; exact ⟨hzn, hcs.1, hfn, hz20, hcs.2, by omega, by omega⟩)
  rw [HF.out] at hrd
  obtain ⟨res, hres⟩ := ex_rch (ob := F.ob) (L := F.all) HD.out.wf.cl HM.out.zr
  obtain ⟨CAN, hCAN⟩ : ∃ CAN, canL F.ob F.zs res = CAN := ⟨_, rfl⟩
  have hcl := HD.out.can_len HM.out.ylo (by rw [HZN.out.1]; have := HZN.out.2.2.2.1; omega) HM.out.zr hres
  rw [hCAN] at hcl
  have HCL := hide hcl
  have HRD := hide hrd
  have HAG : Hid (Ag 0 (th % 8) F CAN (finS F A)) := hide ⟨HZN.out.2.2.1, HM.out.ylo, HZN.out.2.2.2.2.1, HZN.out.2.2.2.2.2, fun x hx => ((HD.out.wf.at_ (List.mem_append_right _ hx)).ok.bd HD.out.wf.rt).2.2.2.2.1, HM.out.zr, ⟨res, hres, hCAN⟩, fun h => absurd h (by have := HZN.out.2.2.2.2.2; omega)⟩
  have HGG := hide (show w1.heap.size ≤ g ∧ w1.heap.size ≤ gc ∧ w.heap.size ≤ w1.heap.size from by
    have h1 := HM.out.pl
    exact ⟨by omega, by omega, HG.out.size⟩)
  have HGW := hide ((HM.out.gr.trans HGP.out).trans HC5.out)
  clear hzn hcs hfn hz20 hrd hgd HQ HP4 htb hres hCAN hcl
  have HK := hide (fun W (c' : Grow w5 W) => show W.cell? ⟨p, 4, none⟩ = some (.int .i64 F.y.OF) ∧ W.cell? ⟨p, 5, none⟩ = some (.int .i64 F.y.OT) ∧ W.cell? ⟨p, 6, none⟩ = some (.int .i64 F.y.OE) ∧ W.cell? ⟨p, 7, none⟩ = some (.int .i64 F.y.EF) ∧ W.cell? ⟨p, 8, none⟩ = some (.int .i64 F.y.ET) ∧ W.cell? ⟨p, 9, none⟩ = some (.int .i64 F.y.EE) ∧ W.cell? ⟨p, 10, none⟩ = some (.int .i64 F.y.FF) ∧ W.cell? ⟨p, 11, none⟩ = some (.int .i64 F.y.FT) ∧ W.cell? ⟨p, 12, none⟩ = some (.int .i64 F.y.FE) ∧ W.cell? ⟨p, 13, none⟩ = some (.int .i64 F.y.TF) ∧ W.cell? ⟨p, 14, none⟩ = some (.int .i64 F.y.TT) ∧ W.cell? ⟨p, 15, none⟩ = some (.int .i64 F.y.TE) ∧ W.cell? ⟨p, 16, none⟩ = some (.int .i64 F.y.th) ∧ W.cell? ⟨p, 18, none⟩ = some (.slice ra zl rc) from by
    have hp := HP5.out.chg c' id
    exact ⟨hp.cell 4, hp.cell 5, hp.cell 6, hp.cell 7, hp.cell 8, hp.cell 9, hp.cell 10, hp.cell 11, hp.cell 12, hp.cell 13, hp.cell 14, hp.cell 15, hp.cell 16, hp.cell 18⟩)
  go_upto_region 4 with fail
  have hk0 := hide (HK.out w5 (Chg.refl _ _))
  have hk1 := hide (HK.out w5.drew (Chg.drew (Chg.refl _ _)))
  have hk2 := hide (HK.out (w5.alloc (.cells #[.int .i64 0, .int .i64 0, .int .i64 0, .int .i64 0, .int .i64 0, .int .i64 0, .int .i64 0, .int .i64 0, .int .i64 0, .int .i64 0, .int .i64 0, .int .i64 0, .int .i64 0] 36)).drew (Chg.drew ((Chg.refl _ _).alloc _)))
  have hk3 := hide (HK.out (w5.drew.alloc (.cells #[.int .i64 0, .int .i64 0, .int .i64 0, .int .i64 0, .int .i64 0, .int .i64 0, .int .i64 0, .int .i64 0, .int .i64 0, .int .i64 0, .int .i64 0, .int .i64 0, .int .i64 0] 36)) ((Chg.drew (Chg.refl _ _)).alloc _))
  have hk4 := hide (HK.out (w5.alloc (.cells #[.int .i64 F.y.OF, .int .i64 F.y.OT, .int .i64 F.y.OE, .int .i64 F.y.EF, .int .i64 F.y.ET, .int .i64 F.y.EE, .int .i64 F.y.FF, .int .i64 F.y.FT, .int .i64 F.y.FE, .int .i64 F.y.TF, .int .i64 F.y.TT, .int .i64 F.y.TE, .int .i64 F.y.th] 36)).drew (Chg.drew ((Chg.refl _ _).alloc _)))
  have hk5 := hide (HK.out (w5.drew.alloc (.cells #[.int .i64 F.y.OF, .int .i64 F.y.OT, .int .i64 F.y.OE, .int .i64 F.y.EF, .int .i64 F.y.ET, .int .i64 F.y.EE, .int .i64 F.y.FF, .int .i64 F.y.FT, .int .i64 F.y.FE, .int .i64 F.y.TF, .int .i64 F.y.TT, .int .i64 F.y.TE, .int .i64 F.y.th] 36)) ((Chg.drew (Chg.refl _ _)).alloc _))
  go_region_held3 (fun W => W.cell? ⟨p, 4, none⟩ = some (.int .i64 F.y.OF) ∧ W.cell? ⟨p, 5, none⟩ = some (.int .i64 F.y.OT) ∧ W.cell? ⟨p, 6, none⟩ = some (.int .i64 F.y.OE) ∧ W.cell? ⟨p, 7, none⟩ = some (.int .i64 F.y.EF) ∧ W.cell? ⟨p, 8, none⟩ = some (.int .i64 F.y.ET) ∧ W.cell? ⟨p, 9, none⟩ = some (.int .i64 F.y.EE) ∧ W.cell? ⟨p, 10, none⟩ = some (.int .i64 F.y.FF) ∧ W.cell? ⟨p, 11, none⟩ = some (.int .i64 F.y.FT) ∧ W.cell? ⟨p, 12, none⟩ = some (.int .i64 F.y.FE) ∧ W.cell? ⟨p, 13, none⟩ = some (.int .i64 F.y.TF) ∧ W.cell? ⟨p, 14, none⟩ = some (.int .i64 F.y.TT) ∧ W.cell? ⟨p, 15, none⟩ = some (.int .i64 F.y.TE) ∧ W.cell? ⟨p, 16, none⟩ = some (.int .i64 F.y.th) ∧ W.cell? ⟨p, 18, none⟩ = some (.slice ra zl rc))
    (first | with_reducible exact hk0.out | with_reducible exact hk1.out | with_reducible exact hk2.out | with_reducible exact hk3.out | with_reducible exact hk4.out | with_reducible exact hk5.out)
    (fail)
  clear hk0 hk1 hk2 hk3 hk4 hk5 HK
  have hq := (Blk.new w5 36 [.int .i64 F.y.OF, .int .i64 F.y.OT, .int .i64 F.y.OE, .int .i64 F.y.EF, .int .i64 F.y.ET, .int .i64 F.y.EE, .int .i64 F.y.FF, .int .i64 F.y.FT, .int .i64 F.y.FE, .int .i64 F.y.TF, .int .i64 F.y.TT, .int .i64 F.y.TE, .int .i64 F.y.th]).drew
  have gq := (Grow.box w5 (.cells [.int .i64 F.y.OF, .int .i64 F.y.OT, .int .i64 F.y.OE, .int .i64 F.y.EF, .int .i64 F.y.ET, .int .i64 F.y.EE, .int .i64 F.y.FF, .int .i64 F.y.FT, .int .i64 F.y.FE, .int .i64 F.y.TF, .int .i64 F.y.TT, .int .i64 F.y.TE, .int .i64 F.y.th].toArray 36)).drew
  have HD6 := hide (HD.out.grow gq)
  have HP6 := hide (HP5.out.chg gq id)
  have HR6 := hide (HRD.out.grow gq)
  have HG6 := hide (HG5.out.trans gq)
  have HGW6 := hide (HGW.out.trans gq)
  have HNQ := hide (show ¬ w5.heap.size = g ∧ ¬ w5.heap.size = gc ∧ ¬ w5.heap.size = p ∧ w1.heap.size ≤ w5.heap.size from by
    have h1 := HD.out.ct.glt
    have h2 := HD.out.lo.st.lt
    have h3 := HNP.out
    exact ⟨by omega, by omega, by omega, HGW.out.size⟩)
  have HNZ := hide (show z ≤ w5.heap.size ∧ pc < w5.heap.size ∧ mc < w5.heap.size from ⟨HD.out.zw, HD.out.ct.plt, HD.out.ct.mlt⟩)
  clear gq HG5 HGW HRD
  generalize (w5.alloc (.cells #[.int .i64 F.y.OF, .int .i64 F.y.OT, .int .i64 F.y.OE, .int .i64 F.y.EF, .int .i64 F.y.ET, .int .i64 F.y.EE, .int .i64 F.y.FF, .int .i64 F.y.FT, .int .i64 F.y.FE, .int .i64 F.y.TF, .int .i64 F.y.TT, .int .i64 F.y.TE, .int .i64 F.y.th] 36)).drew = w6 at *
  generalize w5.heap.size = q at *
  have HQ6 := hide hq
  clear hq HD HP5
  have HST := hide (lstore_any HD6.out.lo.st HP6.out (HD6.out.wf.n.trans HZN.out.2.2.1))
  go_wp2_with fail
  refine HST.out.mono ?_
  rintro e w7 ⟨q1, zq1, rfl, hra, c7, -, -⟩
  have hic : IsCls w7 ca cl cc F.cs := by
    rw [HZN.out.2.1]
    exact HU.out.c.chg (HGW6.out.trans c7) fun _ _ => id
  obtain ⟨res, hres, hcan⟩ := HAG.out.cn
  have hcn := HD6.out.canon (fc := rc) HZN.out.2.2.1 HAG.out.lo hra hic (HR6.out.grow c7) (by have := HZN.out.2.2.2.1; omega) HAG.out.zi hres
  rw [hcan] at hcn
  have HCN := hide hcn
  have HC7 := hide c7
  clear hra hic hres hcan hcn HST c7
  go_wp2_with fail
  refine HCN.out.mono ?_
  rintro e w8 ⟨v8, rfl, hv8, c8⟩
  obtain ⟨wa, wcap, rfl, hwr⟩ := hv8.form
  have g78 := HC7.out.trans c8
  have HD8 := hide (HD6.out.grow g78)
  have HP8 := hide (HP6.out.chg g78 id)
  have HR8 := hide (HR6.out.grow g78)
  have HQ8 := hide (HQ6.out.chg g78 id)
  have HG8 := hide (HG6.out.trans g78)
  have HGW8 := hide (HGW6.out.trans g78)
  have HWR := hide hwr
  have HWB := hide (fun (x : Addr) (e : wa = some x) => show ¬ x.block = g ∧ ¬ x.block = gc ∧ ¬ x.block = q from by
    have h1 := (hv8.lt x.block (by subst e; rfl)).1
    have h2 := HC7.out.size
    have h3 := HQ6.out.lt
    have h4 := HD6.out.ct.glt
    have h5 := HD6.out.lo.st.lt
    exact ⟨by omega, by omega, by omega⟩)
  clear hwr hv8 c8 g78 HC7 HCN HQ6 HP6 HD6 HR6 HG6 HGW6
  obtain ⟨-, -, -, -, -, -, -, -, -, -, -, -, y12⟩ : YC w8 q F.y := HQ8.out.yc
  obtain ⟨T1, hT1⟩ : ∃ T1 : Nat, (T1 : Int) = F.y.th + 1 := ⟨(F.y.th + 1).toNat, by have := HZN.out.2.2.2.2; omega⟩
  have hw1 : IntKind.i64.wrap (F.y.th + 1) = (T1 : Int) := (IntWalk.i64_in _ (by have := HZN.out.2.2.2.2; omega)).trans hT1.symm
  have HT1 := hide (show (T1 : Int) = th % 8 + 1 ∧ T1 ≤ 8 from by have := HZN.out.2.2.2.2; exact ⟨by omega, by omega⟩)
  clear hT1
  go_wp2_with fail
  clear y12 hw1
  go_loopw [5, 36] (fun vr v wr => ∃ (k : Nat) (f : Fx) (xs : List Int) (S : Nat → Bool) (a : Option Addr) (c : Nat), k ≤ T1 ∧ v = .int .i64 k ∧ vr = .slice a zl c ∧ Sd wr f xs z b tp g pc mc gc S ∧ Ag k (th % 8) f CAN S ∧ f.cs = cs ∧ f.zs.length = zl ∧ L1.Rd wr a zl f.zs ∧ Blk wr q 36 f.y.cells ∧ Chg (fun i => i = g ∨ i = gc ∨ i = q) w8 wr) (fun _ v _ => T1 - (intOf v).toNat)
  case atStart => exact ⟨0, F, xs, finS F A, ra, rc, Nat.zero_le _, rfl, rfl, HD8.out, HAG.out, HZN.out.2.1, HZN.out.1, HR8.out, HQ8.out, Chg.refl _ _⟩
  case round =>
    clear HR8 HQ8 HD8 HAG
    obtain ⟨k, f, xs2, S, a, c, hk, rfl, rfl, hd, hag, hcs, hzl, hrd, hq, hcc⟩ := hrel
    have hgg := HGG.out
    have hnq := HNQ.out
    have hnp := HNP.out
    have HDK := hide hd
    have HAK := hide hag
    have HZK := hide (And.intro hcs hzl)
    have HRK := hide hrd
    have HQK := hide hq
    have HCK := hide hcc
    have HPK := hide (HP8.out.chg hcc (show ¬ (p = g ∨ p = gc ∨ p = q) by omega))
    have HGK := hide (HG8.out.step hcc fun i hi e => by have e' : i = g ∨ i = gc ∨ i = q := e; omega)
    have HGWK := hide (HGW8.out.step hcc fun i hi e => by have e' : i = g ∨ i = gc ∨ i = q := e; omega)
    clear hd hag hcs hzl hrd hq hcc hgg hnq hnp
    rcases Nat.eq_or_lt_of_le hk with hke | hlt
    · have q1 : decide ((k : Int) < T1) = false := decide_eq_false (by omega)
      have q1n : ¬ k < T1 := by omega
      have hkT : th % 8 < (k : Int) := by have := HT1.out; omega
      obtain ⟨hys, hee, hff, rfl⟩ := HAK.out.en hkT
      obtain ⟨rs', hrs', hcan'⟩ := HAK.out.cn
      have HRS' := hide hrs'
      have HCAN' := hide hcan'
      have HYS := hide hys
      have hsub : ∀ x ∈ rs', x ∈ f.OS := fun x hx => by
        have h1 : x ∈ f.all := reach_D (D := fun x => x ∈ f.all) HDK.out.wf.cl hrs' HAK.out.zi x hx
        have h2 : x ∈ f.OS ++ f.YS := h1
        rw [hys, List.append_nil] at h2
        exact h2
      have HHB := hide (fun x (hx : x ∈ rs') => show L2.hasB f.y.OF f.y.OT f.y.OE x = true from by
        have h1 := HDK.out.wf.so.bd (hsub x hx)
        have h2 := HDK.out.wf.ok.o
        have h3 := sz_pos (f.ob x)
        exact (has_iff (by omega)).2 (by omega))
      have HE := hide (show f.y.ET - f.y.EF = 0 ∧ f.y.FT - f.y.FF = 0 from ⟨by omega, by omega⟩)
      have hrl : rs'.length ≤ 10000 := Nat.le_trans (nodup_len (hrs'.nodup (adds_nodup _ List.nodup_nil)) fun x hx => List.mem_append_left _ (hsub x hx)) (HDK.out.wf.len3 HAK.out.lo)
      have HRI := hide HDK.out.wf.ok.ris
      have HST2 := hide (lstore_any HDK.out.lo.st HPK.out (HDK.out.wf.n.trans HAK.out.n))
      have hnp := HNP.out
      have hgg := HGG.out
      have hnq := HNQ.out
      have HWK := hide (HWR.out.chg HCK.out fun x e hh => by have h1 := HWB.out x e; have e' : x.block = g ∨ x.block = gc ∨ x.block = q := hh; omega)
      clear hk hke hkT hys hee hff hrs' hcan' hsub hnp hgg hnq HCK HWR HWB HP8 HG8 HGW8
      go_wp2_with fail
      clear q1 q1n
      refine HST2.out.mono ?_
      rintro e w9 ⟨q3, zq3, rfl, hra, c9, -, -⟩
      clear HST2
      go_upto_region 14 with fail
      have hs1 := Blk.new w9 57 [ptr q3, .slice ca cl cc]
      have gs1 := Grow.box w9 (.cells [ptr q3, .slice ca cl cc].toArray 57)
      have g9 := c9.trans gs1
      have HRA10 := hide (hra.chg gs1 id id)
      have HR10 := hide (HRK.out.grow g9)
      have HP10 := hide (HPK.out.chg g9 id)
      have HQ10 := hide (HQK.out.chg g9 id)
      have HW10 := hide (HWK.out.grow g9)
      have HG10 := hide (HGK.out.trans g9)
      have HGW10 := hide (HGWK.out.trans g9)
      have HCT10 := hide (HDK.out.ct.grow g9)
      clear gs1 g9 c9 hra HRK HPK HQK HWK HGK HGWK
      generalize w9.alloc (.cells #[ptr q3, .slice ca cl cc] 57) = w10 at *
      generalize w9.heap.size = sb at *
      have HS10 := hide hs1
      obtain ⟨s0, s1⟩ := hs1.cell2
      have hic : IsCls w10 ca cl cc f.cs := by
        rw [HZK.out.1]
        exact HU.out.c.chg HGW10.out fun _ _ => id
      have hre := HDK.out.reach (fc := c) HAK.out.n HAK.out.lo HRA10.out hic HR10.out (by have := HZN.out.2.2.2.1; omega) HAK.out.zi HRS'.out
      have HRE := hide hre
      clear hs1 hic hre
      go_wp2_with fail
      clear s0 s1
      refine HRE.out.mono ?_
      rintro e w11 ⟨v11, rfl, hv11, c11⟩
      obtain ⟨la, lc, rfl, hlr⟩ := hv11.form
      obtain ⟨LN, hLN⟩ : ∃ LN, rs'.length = LN := ⟨_, rfl⟩
      rw [hLN] at hlr hrl
      rw [hLN]
      have HRA11 := hide (HRA10.out.chg c11 id id)
      have HR11 := hide (HR10.out.grow c11)
      have HP11 := hide (HP10.out.chg c11 id)
      have HQ11 := hide (HQ10.out.chg c11 id)
      have HW11 := hide (HW10.out.grow c11)
      have HG11 := hide (HG10.out.trans c11)
      have HGW11 := hide (HGW10.out.trans c11)
      have HCT11 := hide (HCT10.out.grow c11)
      have HS11 := hide (HS10.out.chg c11 id)
      have HOL11 := hide hv11
      have HLN := hide (And.intro hLN hrl)
      clear c11 hv11 hlr hLN hrl HRA10 HR10 HP10 HQ10 HW10 HG10 HGW10 HCT10 HS10 HRE
      go_wp2_with fail
      go_loopw [64] (fun v wr => ∃ k2 : Nat, k2 ≤ LN ∧ v = .int .i64 k2 ∧ Grow w11 wr) (fun v _ => LN - (intOf v).toNat)
      case atStart => exact ⟨0, Nat.zero_le _, rfl, Chg.refl _ _⟩
      case round =>
        obtain ⟨k2, hk2, rfl, cg⟩ := hrel
        have HRA12 := hide (HRA11.out.chg cg id id)
        have HR12 := hide (HR11.out.grow cg)
        have HP12 := hide (HP11.out.chg cg id)
        have HQ12 := hide (HQ11.out.chg cg id)
        have HW12 := hide (HW11.out.grow cg)
        have HG12 := hide (HG11.out.trans cg)
        have HGW12 := hide (HGW11.out.trans cg)
        have HCT12 := hide (HCT11.out.grow cg)
        have HS12 := hide (HS11.out.chg cg id)
        have HOL12 := hide (HOL11.out.grow cg)
        have HCG := hide cg
        clear cg HRA11 HR11 HP11 HQ11 HW11 HG11 HGW11 HCT11 HS11 HOL11
        rcases Nat.eq_or_lt_of_le hk2 with hke | hlt
        · have q3 : decide ((k2 : Int) < LN) = false := decide_eq_false (by omega)
          have q3n : ¬ k2 < LN := by omega
          clear hke hk2
          obtain ⟨-, -, -, -, -, -, y6, y7, y8, -⟩ : YC _ q f.y := HQ12.out.yc
          go_wp2_with fail
          clear y6 y7 y8 q3 q3n
          refine (L2.used_is f.y.FF f.y.FT f.y.FE _ HRI.out.2.2.1 HE.out.2).mono ?_
          rintro e w13 ⟨rfl, c13⟩
          have HQ13 := hide (HQ12.out.chg c13 id)
          have HP13 := hide (HP12.out.chg c13 id)
          have HS13 := hide (HS12.out.chg c13 id)
          have HC13 := hide c13
          clear c13
          obtain ⟨-, -, -, y3, y4, y5, -⟩ : YC w13 q f.y := HQ13.out.yc
          go_wp2_with fail
          clear y3 y4 y5
          refine (L2.used_is f.y.EF f.y.ET f.y.EE _ HRI.out.2.1 HE.out.1).mono ?_
          rintro e w14 ⟨rfl, c14⟩
          have HC14 := hide (HC13.out.trans c14)
          have hp14 := HP13.out.chg c14 id
          have HS14 := hide (HS13.out.chg c14 id)
          obtain ⟨-, -, -, -, -, -, -, -, -, -, -, -, -, -, -, -, c19⟩ := lf_rc hp14
          clear c14 hp14
          go_wp2_with fail
          clear c19
          refine (L7.tb_all (HCT12.out.grow HC14.out) (HTAB.out.chg (HG12.out.trans HC14.out) id) (l := []) (cds_no _ _)).mono ?_
          rintro e w15 ⟨v15, rfl, hv15, c15⟩
          obtain ⟨oa, ocap, rfl⟩ := own_len hv15
          have HC15 := hide (HC14.out.trans c15)
          have hs15 := HS14.out.chg c15 id
          obtain ⟨s0, s1⟩ := hs15.cell2
          have hic : IsCls w15 ca cl cc f.cs := by
            rw [HZK.out.1]
            exact HU.out.c.chg (HGW12.out.trans HC15.out) fun _ _ => id
          have hcn := HDK.out.canon (fc := c) HAK.out.n HAK.out.lo (HRA12.out.chg HC15.out id id) hic (HR12.out.grow HC15.out) (by have := HZN.out.2.2.2.1; omega) HAK.out.zi HRS'.out
          rw [HCAN'.out] at hcn
          have HCN := hide hcn
          clear hv15 c15 hs15 hic hcn
          go_wp2_with fail
          clear s0 s1
          refine HCN.out.mono ?_
          rintro e w16 ⟨v16, rfl, hv16, c16⟩
          obtain ⟨ya, yc, rfl, hyr⟩ := hv16.form
          have HG16 := hide ((HG12.out.trans HC15.out).trans c16)
          have HSM := hide (L1.same_yes wa ya CAN.length wcap yc CAN _ ((HW12.out.grow HC15.out).grow c16) hyr HCL.out)
          clear hv16 hyr c16
          go_wp2_with fail
          refine HSM.out.mono ?_
          rintro e w17 ⟨rfl, c17⟩
          have HG17 := hide (HG16.out.trans c17)
          clear c17
          go_wp2
          go_ret
          exact ⟨rfl, HG17.out.below (fun _ _ h => h) (Nat.le_refl _)⟩
        · have q3 : decide ((k2 : Int) < LN) = true := decide_eq_true (by omega)
          have q4 : k2 < LN := hlt
          have HWK2 : Hid (IntKind.i64.wrap ((k2 : Int) + 1) = ((k2 + 1 : Nat) : Int)) := hide ((IntWalk.i64_in _ (by have := HLN.out; omega)).trans (by omega))
          have hln := HLN.out
          obtain ⟨ag, ac, e1, -, -⟩ := HOL12.out.pos (by omega)
          have lx := HOL12.out
          rw [e1] at lx
          have lx := lx.cell (k := k2) (by omega)
          obtain ⟨X, hX⟩ : ∃ X, rs'.getD k2 0 = X := ⟨_, rfl⟩
          have hXin : X ∈ rs' := by rw [← hX]; exact getD_mem (by omega)
          have HXH := hide (HHB.out X hXin)
          rw [hX] at lx
          injection e1 with e1
          subst e1
          have s5 : (0 : Int) ≤ (k2 : Int) := by omega
          have s6 : (k2 : Int) < (LN : Int) := by omega
          clear hX hXin hk2 hlt hln
          obtain ⟨y0, y1, y2, -⟩ : YC _ q f.y := HQ12.out.yc
          go_upto_region 18 with fail
          refine wp_region_grow (by kernel_rfl) (by kernel_rfl) ?_
          repeat (
            with_reducible refine wpQuiet_step ?_
            intro K hK
            first
              | ((with_reducible refine quiet_offT rfl ?_ (hK _ ?_)); focus (refine ⟨_, rfl, ?_⟩; with_reducible rfl))
              | ((with_reducible refine quiet_offF rfl ?_ (hK _ ?_)); focus (refine ⟨_, rfl, ?_⟩; with_reducible rfl))
              | ((with_reducible refine quiet_offN rfl ?_ (hK _ ?_)); focus (exact rfl))
              | ((first | with_reducible refine quiet_free rfl ?_ | ((with_reducible refine quiet_on rfl ?_ ?_); focus (refine ⟨_, rfl, ?_⟩; with_reducible rfl)))
                 apply Exists.intro
                 refine ⟨fun Wq hW => ?_, hK _ ?_⟩
                 focus (have q0 := Grow.cell hW lx; have q1 := Grow.cell hW y0; have q2 := Grow.cell hW y1; have q3 := Grow.cell hW y2; go_simp; first | done | with_reducible rfl | (go_at_call 19; (first | with_reducible exact grown_call hW (L2.has_is f.y.OF f.y.OT f.y.OE X _ HXH.out) | with_reducible exact grown_same hW (L2.has_is f.y.OF f.y.OT f.y.OE X _ HXH.out)))))
            clear hK K
            simp only [Act.put, List.setIfInBounds_toArray, List.set_cons_zero, List.set_cons_succ])
          with_reducible refine wpQuiet_nil ?_
          intro w13 c13
          have HC13 := hide (HCG.out.trans c13)
          clear c13 lx y0 y1 y2
          have hwk := HWK2.out
          go_wp2_with fail
          go_roundw
          case rel => exact ⟨k2 + 1, q4, rfl, HC13.out⟩
          case measure => clear hwk; simp [intOf]; omega
    · have q1 : decide ((k : Int) < T1) = true := decide_eq_true (by omega)
      have q2 : k < T1 := hlt
      have HWK : Hid (IntKind.i64.wrap ((k : Int) + 1) = ((k + 1 : Nat) : Int)) := hide ((IntWalk.i64_in _ (by have := HT1.out; omega)).trans (by omega))
      have HRUN := hide (HDK.out.run (rc := c) HRK.out (by have := HZN.out; omega) HAK.out.zi)
      clear hk hlt
      obtain ⟨c0, c1, -, -, -, -, -, -, -, -, -, -, -, -, -, -, c19⟩ := lf_rc HPK.out
      obtain ⟨y0, y1, y2, y3, y4, y5, y6, y7, y8, y9, y10, y11, y12⟩ : YC wr q f.y := HQK.out.yc
      go_wp2_with fail
      clear c0 c1 c19 y0 y1 y2 y3 y4 y5 y6 y7 y8 y9 y10 y11 y12
      refine HRUN.out.mono ?_
      rintro e w9 (⟨-, rfl, c9⟩ | ⟨-, v, rs, s, rfl, R⟩)
      · have HG9 := hide (HGK.out.trans c9)
        clear c9
        go_upto_region 9 with fail
        have gq := Grow.box w9 (.cells [.int .i64 0, .int .i64 0, .int .i64 0, .int .i64 0, .int .i64 0, .int .i64 0, .int .i64 0, .int .i64 0, .int .i64 0, .int .i64 0, .int .i64 0, .int .i64 0, .int .i64 0].toArray 36)
        have HG10 := hide (HG9.out.trans gq)
        clear gq
        generalize w9.alloc (.cells #[.int .i64 0, .int .i64 0, .int .i64 0, .int .i64 0, .int .i64 0, .int .i64 0, .int .i64 0, .int .i64 0, .int .i64 0, .int .i64 0, .int .i64 0, .int .i64 0, .int .i64 0] 36) = w10 at *
        clear HRUN HDK HAK HZK HRK HQK HCK HPK HGK HGWK HG9 HWB HWR HP8 HG8 HGW8 HT1 HNZ HNQ HNP HGG HZN HU HTAB HCL HF HA HM HG4 HGP HPE HC5
        go_wp2
        go_ret
        exact ⟨rfl, HG10.out.below (fun _ _ h => h) (Nat.le_refl _)⟩
      have hgg := HGG.out
      have hnq := HNQ.out
      have hnp := HNP.out
      have hn : rs.length = zl := R.n.trans HZK.out.2
      have HA9 := hide (HAK.out.next HDK.out R)
      have HD9 := hide (R.sd HDK.out)
      have HP9 := hide (HPK.out.chg R.c (show ¬ (p = g ∨ p = gc) by omega))
      have HQ9 := hide (HQK.out.chg R.c (show ¬ (q = g ∨ q = gc) by omega))
      have HC9 := hide (HCK.out.trans (R.c.mono (S := fun i => i = g ∨ i = gc ∨ i = q) fun i _ e => e.elim .inl fun e => .inr (.inl e)))
      have hol := R.ol
      obtain ⟨va, vc, rfl, -⟩ := R.ol.form
      have hrd := own_rd hol
      rw [hn] at hrd
      have HRD9 := hide hrd
      have HVB := hide (fun (x : Addr) (e : va = some x) => show ¬ x.block = q from by
        have h1 := (hol.lt x.block (by subst e; rfl)).1
        have h2 := HQK.out.lt
        omega)
      have HN := hide hn
      rw [hn]
      have ev : (f.y.aft s.ot s.tt).v = .agg #[.int .i64 f.y.OF, .int .i64 s.ot, .int .i64 f.y.OE, .int .i64 f.y.EF, .int .i64 f.y.EF, .int .i64 f.y.EE, .int .i64 f.y.TF, .int .i64 s.tt, .int .i64 f.y.TE, .int .i64 f.y.FF, .int .i64 f.y.FF, .int .i64 f.y.FE, .int .i64 f.y.th] := rfl
      rw [ev]
      clear R hol hrd hn ev hgg hnp HRUN HDK HAK HRK HQK HCK HPK HGK HGWK
      go_upto_region 11 with fail
      have hq2 := Blk.new w9 36 [.int .i64 f.y.OF, .int .i64 s.ot, .int .i64 f.y.OE, .int .i64 f.y.EF, .int .i64 f.y.EF, .int .i64 f.y.EE, .int .i64 f.y.TF, .int .i64 s.tt, .int .i64 f.y.TE, .int .i64 f.y.FF, .int .i64 f.y.FF, .int .i64 f.y.FE, .int .i64 f.y.th]
      have gq := Grow.box w9 (.cells [.int .i64 f.y.OF, .int .i64 s.ot, .int .i64 f.y.OE, .int .i64 f.y.EF, .int .i64 f.y.EF, .int .i64 f.y.EE, .int .i64 f.y.TF, .int .i64 s.tt, .int .i64 f.y.TE, .int .i64 f.y.FF, .int .i64 f.y.FF, .int .i64 f.y.FE, .int .i64 f.y.th].toArray 36)
      have HD10 := hide (HD9.out.grow gq)
      have HQ10 := hide (HQ9.out.chg gq id)
      have HC10 := hide (HC9.out.trans (gq.mono (S := fun i => i = g ∨ i = gc ∨ i = q) fun _ _ h => h.elim))
      have HR10 := hide (HRD9.out.grow gq)
      clear gq HD9 HQ9 HC9 HRD9 HP9
      generalize w9.alloc (.cells #[.int .i64 f.y.OF, .int .i64 s.ot, .int .i64 f.y.OE, .int .i64 f.y.EF, .int .i64 f.y.EF, .int .i64 f.y.EE, .int .i64 f.y.TF, .int .i64 s.tt, .int .i64 f.y.TE, .int .i64 f.y.FF, .int .i64 f.y.FF, .int .i64 f.y.FE, .int .i64 f.y.th] 36) = w10 at *
      generalize w9.heap.size = q2' at *
      obtain ⟨y0, y1, y2, y3, y4, y5, y6, y7, y8, y9, y10, y11, y12⟩ : YC w10 q2' (f.y.aft s.ot s.tt) := Blk.yc (y := f.y.aft s.ot s.tt) hq2
      clear hq2
      go_still_tail 3, (by kernel_rfl)
      change wpList _ _ _ _ _ (World.drew _)
      clear y0 y1 y2 y3 y4 y5 y6 y7 y8 y9 y10 y11 y12
      have gd : Grow w10 w10.drew := (Chg.refl _ _).drew
      have cS : Chg (· = q) w10.drew (w10.drew.setRow q (f.y.aft s.ot s.tt).cells.toArray) := chg_setRow _ _
      have HQd := hide (HQ10.out.chg gd id)
      have hnz := HNZ.out
      have HD11 := hide ((HD10.out.grow gd).far cS hnz.1 (by have h1 := HD10.out.ct.glt; exact ⟨by omega, by omega, fun e => hnq.2.1 e.symm⟩))
      have HQ11 := hide (blk_row HQd.out (f.y.aft s.ot s.tt).cells)
      have HC11 := hide ((HC10.out.trans (gd.mono (S := fun i => i = g ∨ i = gc ∨ i = q) fun _ _ h => h.elim)).trans (cS.mono (S := fun i => i = g ∨ i = gc ∨ i = q) fun _ _ e => .inr (.inr e)))
      have HR11 := hide ((HR10.out.grow gd).chg cS (fun x e h => HVB.out x e h))
      clear gd cS hnz hnq HD10 HQ10 HC10 HR10
      refine wpList_store_row rfl 36 _ _ rfl q (f.y.aft s.ot s.tt).cells.toArray (by rfl) (by rfl) 36 f.y.cells.toArray HQd.out yg_sz (by rfl) (yg_one _) ?_
      clear HQd
      generalize w10.drew.setRow q (f.y.aft s.ot s.tt).cells.toArray = w11 at *
      have hwk := HWK.out
      go_wp2_with fail
      go_roundw
      case rel => exact ⟨k + 1, f.aft s rs, s.xs, _, va, vc, q2, rfl, rfl, HD11.out, by rw [show ((k + 1 : Nat) : Int) = (k : Int) + 1 by omega]; exact HA9.out, HZK.out.1, HN.out, HR11.out, HQ11.out, HC11.out⟩
      case measure => clear hwk; simp [intOf]; omega

theorem own : ownKnob Tryz.prog.godebug = none := by kernel_rfl
theorem laidOut : laidOutB Tryz.prog = true := by kernel_rfl
theorem door_met (os : Os) (args : Array Value) : laidMetH Tryz.prog Rows.scavengeAgesRow.laid ((World.doorLaid Tryz.prog 400 os).forCall (fun _ _ => 0) ⟨#[], args, []⟩).memory :=
  laidMetH_of_parts3 (fuel := 8) (laidMet_of_run' 8 (by kernel_rfl) (by kernel_rfl)) (by kernel_rfl) (by kernel_rfl)

set_option maxRecDepth 100000 in
theorem lifted (os : Os) (started : os.Started) (H : Type) (enc : TypeId × Value → H) :
    ReturnsInHanded {} Tryz.checked os 4 .any (fun w args => (Rows.scavengeAgesSpec.pre enc Tryz.prog Tryz.f4 [] false w args ∧ laidMetH Tryz.prog Rows.scavengeAgesRow.laid w) ∧ sizedMet enc Tryz.prog Tryz.f4 (OpenSpec.ofChange Rows.scavengeAgesSpec) false w args) (Rows.scavengeAgesSpec.post enc Tryz.prog Tryz.f4 false true false false) := by
  refine returnsInHanded_of_change_and (C := Tryz.checked) (X := fun w _ => laidMetH Tryz.prog Rows.scavengeAgesRow.laid w) (fun _ _ _ hh h => h.of_heap hh) own started (by kernel_rfl) Tryz.func4
    (ChangeSpec.witness_shaped (enc := enc) (C := Tryz.checked) (os := os) (X := fun w _ => laidMetH Tryz.prog Rows.scavengeAgesRow.laid w) false (World.doorLaid Tryz.prog 400 os) #[.agg #[.slice none 0 0, .slice none 0 0, .slice none 0 0, .slice none 0 0, .int .u8 0, .int .u8 0]] 8 rfl (World.shaped_of_RefB (by kernel_rfl) (by kernel_rfl)) (by kernel_rfl) (by kernel_rfl) (by kernel_rfl) (door_met os _)) ?_
  intro W base args ds gs before hval0 hW _ _ hL _
  have hval : ∀ (j : Nat) t v, Tryz.f4.params[j]? = some t → args[j]? = some v → Value.okWide Tryz.prog W .any base t v := hval0
  have hW' := hW
  obtain ⟨p, q, hA0, hV, rfl, hfz, hnd⟩ := hW
  have hA : DataW.TrodAll enc Tryz.prog W 0 (fun _ => true) true Tryz.f4.params.toList args.toList ds p := hA0
  rw [Tryz.params4] at hA hval
  obtain ⟨v0, vs0, d0, ds0, p0, q0, hargs, rfl, rfl, h0, r0⟩ := trodAll_cons hA
  obtain ⟨rfl, rfl, rfl⟩ := trodAll_nil r0
  obtain rfl : args = #[v0] := by cases args; simp_all
  obtain ⟨rfl, rfl⟩ := trodVars_none hV
  have k0 := h0
  have lt0 : ∀ x ∈ p0, x.block < W.heap.size := by obtain ⟨m, hm⟩ := k0; exact DataW.trod_lt m _ _ _ hm
  obtain ⟨u0, cs0, gs0, ts0, zs0, rfl, w0⟩ := open_world (hval 0 27 v0 rfl rfl) h0
  clear hA0 hval0
  refine (walk u0 cs0 gs0 ts0 zs0 W (L3.tab_of_laid hL) w0).mono fun e W' ⟨he, bel⟩ => ?_
  subst he
  exact ⟨_, rfl, _, _, _, [], _, [], hW', trodAll_mk1 (shut_bool Tryz.underlying4 _), (trodAll_cons_mk (Below.trod laidOut (by kernel_rfl) (of_decide_eq_true (by kernel_rfl)) k0 bel lt0) trodAll_mk0), rfl, bel.frame _, fun h => by cases h⟩

theorem over : Rows.scavengeAgesRow.holds Tryz.pinned (OpenSpec.ofChange Rows.scavengeAgesSpec) :=
  OpenClaim.holds_of_wide 4 Tryz.f4 rfl rfl rfl rfl rfl rfl rfl ⟨rfl, rfl, rfl, rfl, rfl⟩ rfl rfl rfl rfl rfl (by kernel_rfl) Tryz.func4 (by kernel_rfl)
    (of_decide_eq_true (by kernel_rfl)) (by unfold Func.isWrapper; first | (rw [if_pos (by decide +kernel)]; kernel_rfl) | (rw [if_neg (by decide +kernel)]; exact ⟨rfl, rfl⟩))
    (fun os started H enc _ => lifted os started H enc)

/-- The statement. -/
theorem proved : Rows.ScavengeAgesCardSaid :=
  Claim7.holds_tied_plain_at .later [] [.data] true Rows.scavengeAgesCard.stood.harness false
    over (fun _ h => by cases h) (by kernel_rfl) (fun _ h => by cases h) scavengeAges_row_tie rfl ⟨rfl, rfl⟩ (by kernel_rfl) rfl
    (fun f fn hf hfn => by
      obtain rfl : f = 4 := Option.some.inj ((show Tryz.prog.funcNamed "gleaning/gleaninglaw15.ScavengeAges" = some 4 by kernel_rfl).symm.trans hf) |>.symm
      obtain rfl : fn = Tryz.f4 := (Option.some.inj (Tryz.func4.symm.trans hfn)).symm
      exact ⟨by kernel_rfl, fun j t ht => by
        rw [Tryz.params4] at ht
        have hm : t ∈ [27] := by simpa using Array.mem_of_getElem? ht
        have hall : ([27].all fun u => !Tryz.prog.wantsStandIn u) = true := by kernel_rfl
        exact (show Tryz.prog.wantsStandIn t = false by simpa using List.all_eq_true.1 hall t hm)⟩)
    (by kernel_rfl)
#print axioms proved
end Go.Proofs.YtogfjclmohpjkaaGreatDoor.scavengeAges

