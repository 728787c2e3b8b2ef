/- A life that is made. Conditions: its world can be. -/
import Derived.Test.YtogfjclmohpjkaaGreatDoorL15Am
import Derived.Test.YtogfjclmohpjkaaGreatDoorL15Md
import Derived.Deep.CutBlock
namespace Go.Proofs.YtogfjclmohpjkaaGreatDoor.L15
open Go.ChangeShapes Go.WideShapes Go.ChangeAt Go.RowKit
open Go.Proofs.YtogfjclmohpjkaaGreatDoor.L1 (ptr Ar)
open Go.Proofs.YtogfjclmohpjkaaGreatDoor.L5 (Cl IsCls newX Tb)
open Go.Proofs.YtogfjclmohpjkaaGreatDoor.L6 (stV St)
open Go.Proofs.YtogfjclmohpjkaaGreatDoor.L7 (Ct tset tb_new tb_touch)
open Go.Proofs.YtogfjclmohpjkaaGreatDoor.L3 (no)
set_option linter.unusedVariables false
set_option maxRecDepth 100000
section
variable {w : World} {u : Wo} {cs : List Cl} {gs : List Tg} {ts : List Tr} {zs : List Int}
theorem spl4 {h : Int} (h0 : 0 ≤ h) (h1 : h ≤ 100) : L2.spl 1 [400, 200, h, h] = some [(1, 401), (401, 601), (601, 601 + h), (601 + h, 601 + h + h)] := by
  rw [L2.spl_step _ _ _ (by decide), L2.spl_step _ _ _ (by decide), L2.spl_step _ _ _ (by simp [L2.nwB]; omega), L2.spl_step _ _ _ (by simp [L2.nwB]; omega)]
  rfl
theorem row4 {w : World} {g : Nat} {h : Int} (hb : Blk w g 3 [.int .i64 400, .int .i64 200, .int .i64 h, .int .i64 h]) (h0 : 0 ≤ h) (h1 : h ≤ 100) : IsRow .i64 w (some ⟨g, 0, none⟩) 4 4 [400, 200, h, h] := by
  refine ⟨rfl, Nat.le_refl _, by unfold maxLen; omega, fun _ => ⟨_, rfl, fun i hi => ?_⟩, fun n hn => ?_⟩
  · rw [addr_add, hb.cell]
    match i, hi with
    | 0, _ => rfl
    | 1, _ => rfl
    | 2, _ => rfl
    | 3, _ => rfl
  · have : 0 ≤ n ∧ n ≤ 400 := by
      simp at hn
      rcases hn with rfl | rfl | rfl <;> omega
    simp [Lit.wf, IntKind.min, IntKind.max, IntKind.signed, IntKind.bits]; omega
theorem run_storeAt_row {P : Program} {w : World} {g : Nat} {t ty : TypeId} {old cells : List Value} (hg : Blk w g t old) (hi : (P.info? ty).map (·.size) = some cells.length) (ho : old.length = cells.length) (h1 : cells.toArray.all (·.oneCell') = true) :
    (Instr.storeAt ty (.pointer (some ⟨g, 0, none⟩)) (.agg cells.toArray)).run P w = .ok () (w.setRow g cells.toArray) := by
  simp only [Instr.storeAt, Instr.sureAddr, Sem.run_bind, Sem.run_pure, Result.andThen]
  exact run_storeVar_row w g t ty old.toArray cells.toArray hg (by simpa using hi) (by simpa using ho) h1
theorem life_one (b : Nat) (tp : Option Addr) (s2 s3 : Option Addr) (y : Yg) (a1 : Option Addr) (n1 c1 : Nat) (a2 : Option Addr) (n2 c2 : Nat) (pc : Nat) (a3 : Option Addr) (n3 c3 : Nat) :
    (List.toArray ([.pointer (some ⟨b, 0, none⟩), .pointer tp, .pointer s2, .pointer s3, .int .i64 y.OF, .int .i64 y.OT, .int .i64 y.OE, .int .i64 y.EF, .int .i64 y.ET, .int .i64 y.EE, .int .i64 y.FF, .int .i64 y.FT, .int .i64 y.FE, .int .i64 y.TF, .int .i64 y.TT, .int .i64 y.TE, .int .i64 y.th, .slice a1 n1 c1, .slice a2 n2 c2, .pointer (some ⟨pc, 0, none⟩), .slice a3 n3 c3] : List Value)).all (·.oneCell') = true := by
  simp [Value.oneCell']
theorem life_nw (b : Nat) (tp : Option Addr) (pc : Nat) (E2 E3 T8 : Int) (ca : Option Addr) (cl cc : Nat) : (List.toArray ([.pointer (some ⟨b, 0, none⟩), .pointer tp, .pointer none, .pointer none, .int .i64 1, .int .i64 1, .int .i64 401, .int .i64 401, .int .i64 401, .int .i64 601, .int .i64 601, .int .i64 601, .int .i64 E2, .int .i64 E2, .int .i64 E2, .int .i64 E3, .int .i64 T8, .slice none 0 0, .slice none 0 0, .pointer (some ⟨pc, 0, none⟩), .slice ca cl cc] : List Value)).all (·.oneCell') = true := by
  simp [Value.oneCell']
theorem dec_no {R : Nat} {I : Int} (h : (R : Int) = I) (h0 : R = 0) : decide (I > 0) = false := decide_eq_false (by omega)
theorem dec_yes {R : Nat} {I : Int} (h : (R : Int) = I) (h0 : ¬ R = 0) : decide (I > 0) = true := decide_eq_true (by omega)
theorem sub_lt {k r : Nat} (h : k < r) : r - (k + 1) < r - k := by omega
theorem dec_ic {n : Nat} {I : Int} (h : (n : Int) = I) : decide (0 < n) = decide (I > 0) := decide_eq_decide.2 (by omega)
theorem wr_pred {i j : Nat} (h : j + 1 = i) (hj : j ≤ 60) : wrap64 ((i : Int) - 1) = (j : Int) ∧ wrap64 (j : Int) = (j : Int) := by
  constructor
  · rw [wrap64_id _ (by omega)]; omega
  · rw [wrap64_id _ (by omega)]
theorem ol_at {w : World} {yl M ac k : Nat} {aa : Option Addr} {Z A : List Int} (h : OL w yl (.slice aa M ac) A) (e : A = Z) (hM : Z.length = M) (hk : k < M) : ∃ ag, aa = some ⟨ag, 0, none⟩ ∧ w.cell? ⟨ag, k, none⟩ = some (.int .i64 (Z.getD k 0)) := by
  subst e
  obtain ⟨g, c, e, _, _⟩ := h.pos (by omega)
  rw [e] at h
  injection e with e1
  exact ⟨g, e1, h.cell (by omega)⟩
theorem lf_in {F : Fx} {xs Z : List Int} {H : Int} {M k : Nat} (hbd : Bd F xs H) (e : F.zs = Z) (hM : Z.length = M) (hk : k < M) : Z.getD k 0 ∈ F.all ∧ ObAt xs F.cs (Z.getD k 0) (F.ob (Z.getD k 0)) := by
  have h1 := (hbd.zi (Z.getD k 0)).1 (by rw [e]; exact getD_mem (by omega))
  exact ⟨h1, hbd.wf.at_ h1⟩
theorem take_snoc' {l : List Int} {k : Nat} (hk : k < l.length) : l.take (k + 1) = l.take k ++ [l.getD k 0] := by
  rw [List.take_add_one, List.getElem?_eq_getElem hk, List.getD_eq_getElem?_getD, List.getElem?_eq_getElem hk]
  rfl
theorem tS_next {p : Int → Bool} {f t M k : Nat} {S : Nat → Bool} {Z : List Int} (hM : Z.length = M) (hk : k < M) : tS p f t (Z.take (k + 1)) S = if p (Z.getD k 0) then tset (tS p f t (Z.take k) S) f t (Z.getD k 0) else tS p f t (Z.take k) S := by
  rw [take_snoc' (by omega), tS_snoc]
theorem Lf.card {w w' : World} {z zl b g p cl cp pc gc : Nat} {tp ca : Option Addr} {av rv : Value} {f : Fx} {xs rs : List Int} {H : Int} (h : Lf w z zl b tp g p ca cl cp av rv pc f xs rs H) (c : Chg (· = gc) w w') (h1 : z ≤ gc) (h2 : gc < zl) (h3 : p ≠ gc) : Lf w' z zl b tp g p ca cl cp av rv pc f xs rs H :=
  ⟨h.lo.chg c (fun i e => e ▸ h1), h.bl.chg c h3, h.bd, h.ol.chg c (fun i e hh => by have h4 := (h.ol.lt i e).1; have h5 : i = gc := hh; omega), h.rl.chg c (fun i e hh => by have h4 := (h.rl.lt i e).1; have h5 : i = gc := hh; omega), h.ap, h.zw.1, Nat.le_trans h.zw.2 c.size⟩
theorem alloc_size (w : World) (o : Obj) : (w.alloc o).heap.size = w.heap.size + 1 := by simp
theorem new_life (w : World) (CL : List Value) : Blk ((w.alloc (.cells lf0.toArray 40)).setRow w.heap.size CL.toArray) w.heap.size 40 CL ∧ Grow w ((w.alloc (.cells lf0.toArray 40)).setRow w.heap.size CL.toArray) :=
  ⟨blk_row (Blk.new w 40 lf0) CL, (Grow.box w (.cells lf0.toArray 40)).step (chg_setRow _ _) fun i hi e => by have e' : i = w.heap.size := e; omega⟩
/-- A life stored whole: by its own name, so that the walk does not lay it open. -/
def stLife (p v : Value) : Sem Unit := Instr.storeAt 40 p v
theorem storeAt_life (p v : Value) : Instr.storeAt 40 p v = stLife p v := rfl
attribute [local go_sem ↓] storeAt_life
set_option maxHeartbeats 40000000 in
theorem made_yes (h : IsWo w u cs gs ts zs) (hg : good u cs) :
    Calls Tryz.prog 7 #[Wo.v u] w fun e w' => ∃ xs z yl b tp g pc mc gc av rv, e = .returned (.tuple #[.agg (lfCs b tp (finF cs (u.hf % 101) (u.th % 8) gs ts zs).y av rv pc (.slice u.ca u.cl u.cc)).toArray, .bool true]) ∧ Mde w w' (finF cs (u.hf % 101) (u.th % 8) gs ts zs) (fin0 cs (u.hf % 101) (u.th % 8) gs ts).zs xs (u.hf % 101) z yl b tp g pc mc gc av rv := by
  have HGD := hide hg
  have HW := hide h
  clear h hg
  obtain ⟨ca, cl, cc, ta, tl, tc, ra, rl, rc, za, zl, zc, hf, th⟩ := u
  obtain ⟨hw, hr, cw, fw, fr, nwr⟩ := boxes2 w 27 [.slice ca cl cc, .slice ta tl tc, .slice ra rl rc, .slice za zl zc, .int .u8 hf, .int .u8 th] 40 lf0
  dsimp only [lf0] at hr cw hw
  obtain ⟨h1, h2, h3, h4, h5, hX⟩ : tl ≤ 60 ∧ rl ≤ 200 ∧ zl ≤ 20 ∧ 0 < cl ∧ cl ≤ 63 ∧ newX cs = 0 := HGD.out
  have q1 : decide ((tl : Int) > 60) = false := by simp; omega
  have q2 : decide ((rl : Int) > 200) = false := by simp; omega
  have q3 : decide ((zl : Int) > 20) = false := by simp; omega
  have q4 : ((cl : Int) == 0) = false := by simp; omega
  have q5 : decide ((cl : Int) > 63) = false := by simp; omega
  have HL := hide (And.intro h1 (And.intro h2 (And.intro h3 (And.intro h4 h5))))
  have HX := hide hX
  have HC : Hid (IsCls w ca cl cc cs) := hide HW.out.c
  have hhb : 0 ≤ hf ∧ hf ≤ 255 := HW.out.hb
  have htb : 0 ≤ th ∧ th ≤ 255 := HW.out.tb

  obtain ⟨k0, k1, k2, k3, k4, k5⟩ := hw.cell6
  clear h1 h2 h3 h4 h5 hX HGD
  go_enter Tryz.func7, Tryz.ntmps7
  go_wp2_with fail
  generalize (w.alloc (.cells #[.slice ca cl cc, .slice ta tl tc, .slice ra rl rc, .slice za zl zc, .int .u8 hf, .int .u8 th] 27)).alloc (.cells #[.pointer none, .pointer none, .pointer none, .pointer none, .int .i64 0, .int .i64 0, .int .i64 0, .int .i64 0, .int .i64 0, .int .i64 0, .int .i64 0, .int .i64 0, .int .i64 0, .int .i64 0, .int .i64 0, .int .i64 0, .int .i64 0, .slice none 0 0, .slice none 0 0, .pointer none, .slice none 0 0] 40) = w3 at *
  generalize w.heap.size + 1 = r at *
  generalize w.heap.size = bw at *
  refine (L6.rnew_is _ (HC.out.chg cw fun _ _ => id) (by have := HL.out; omega) HX.out).mono ?_
  rintro e w4 ⟨rfl, c4⟩
  replace hw := hw.chg c4 id
  replace hr := hr.chg c4 id
  replace cw := cw.trans c4
  clear c4 k0 k1 k2 k3 k4 k5
  obtain ⟨k0, k1, k2, k3, k4, k5⟩ := hw.cell6
  go_wp2_with fail
  refine (L5.new_yes _ (HC.out.chg cw fun _ _ => id) (by have := HL.out; omega) HX.out).mono ?_
  rintro e w5 ⟨tg, tv, rfl, ht, c5⟩
  have HT := hide ht
  have HWS := hide (show w.heap.size ≤ w4.heap.size from cw.size)
  replace hw := hw.chg c5 id
  replace hr := hr.chg c5 id
  replace cw := cw.trans c5
  clear c5 ht k0 k1 k2 k3 k4 k5 q1 q2 q3 q4 q5
  obtain ⟨k0, k1, k2, k3, k4, k5⟩ := hw.cell6
  obtain ⟨h, hh⟩ : ∃ h, hf % 101 = h := ⟨_, rfl⟩
  have hhr : 0 ≤ h ∧ h ≤ 100 := by omega
  have p1 : (0 : Int) ≤ hf := hhb.1
  have p2 : IntKind.i64.wrap hf = hf := IntWalk.i64_in _ (by omega)
  have p3 : wrap64 hf = hf := wrap64_id _ (by omega)
  have HH := hide (And.intro hh hhr)
  go_wp2_with fail
  rw [hh]
  have hsl := Blk.new w5 3 [.int .i64 400, .int .i64 200, .int .i64 h, .int .i64 h]
  have gsl := Grow.box w5 (.cells [.int .i64 400, .int .i64 200, .int .i64 h, .int .i64 h].toArray 3)
  refine (L2.split_any 1 _ 4 4 [400, 200, h, h] _ (by decide) (row4 hsl hhr.1 hhr.2) (by decide)).mono ?_
  rintro e w6 hpost
  rcases hpost with ⟨l1, v1, hs1, rfl, ho1, c6⟩ | ⟨hn, _⟩
  case inr => rw [spl4 hhr.1 hhr.2] at hn; cases hn
  rw [spl4 hhr.1 hhr.2] at hs1
  obtain rfl := Option.some.inj hs1
  obtain ⟨E2, hE2⟩ : ∃ E2, 601 + h = E2 := ⟨_, rfl⟩
  obtain ⟨E3, hE3⟩ : ∃ E3, E2 + h = E3 := ⟨_, rfl⟩
  rw [hE2, hE3] at ho1
  obtain ⟨x1, c1, rfl⟩ := own_len ho1
  obtain ⟨sg, rfl, -, hc1, hm1⟩ := L2.own_two ho1 (by simp)
  have c6' := gsl.trans c6
  have HG56 : Hid (Grow w5 w6) := hide c6'
  replace hw := hw.chg c6' id
  replace hr := hr.chg c6' id
  replace cw := cw.trans c6'
  have HE := hide (And.intro hE2 hE3)
  have HO1 := hide ho1
  clear c6 c6' hsl gsl hs1 ho1 k0 k1 k2 k3 k4 k5 p1 p2 p3 hE2 hE3
  obtain ⟨k0, -, -, -, -, k5⟩ := hw.cell6
  obtain ⟨T8, hT8⟩ : ∃ T8, th % 8 = T8 := ⟨_, rfl⟩
  have HT8 := hide hT8
  have p1 : (0 : Int) ≤ th := htb.1
  have p2 : IntKind.i64.wrap th = th := IntWalk.i64_in _ (by omega)
  have p3 : wrap64 th = th := wrap64_id _ (by omega)
  have p5 : th.tmod 8 = T8 := by rw [Int.tmod_eq_emod_of_nonneg htb.1]; exact hT8
  clear hT8
  go_upto_region 8 with fail
  have HKS := hide (fun W (c' : Grow w6 W) => show W.cell? ⟨sg, 0, none⟩ = some (.int .i64 1) ∧ W.cell? ⟨sg, 1, none⟩ = some (.int .i64 1) ∧ W.cell? ⟨sg, 2, none⟩ = some (.int .i64 401) ∧ W.cell? ⟨sg, 3, none⟩ = some (.int .i64 401) ∧ W.cell? ⟨sg, 4, none⟩ = some (.int .i64 401) ∧ W.cell? ⟨sg, 5, none⟩ = some (.int .i64 601) ∧ W.cell? ⟨sg, 6, none⟩ = some (.int .i64 601) ∧ W.cell? ⟨sg, 7, none⟩ = some (.int .i64 601) ∧ W.cell? ⟨sg, 8, none⟩ = some (.int .i64 E2) ∧ W.cell? ⟨sg, 9, none⟩ = some (.int .i64 E2) ∧ W.cell? ⟨sg, 10, none⟩ = some (.int .i64 E2) ∧ W.cell? ⟨sg, 11, none⟩ = some (.int .i64 E3) ∧ W.cell? ⟨bw, 5, none⟩ = some (.int .u8 th) ∧ W.cell? ⟨bw, 0, none⟩ = some (.slice ca cl cc) from by
    have o := own_grow HO1.out c'
    obtain ⟨a0, a1, a2⟩ := L2.own_sp (i := 0) o (by simp) rfl
    obtain ⟨b0, b1, b2⟩ := L2.own_sp (i := 1) o (by simp) rfl
    obtain ⟨d0, d1, d2⟩ := L2.own_sp (i := 2) o (by simp) rfl
    obtain ⟨e0, e1, e2⟩ := L2.own_sp (i := 3) o (by simp) rfl
    exact ⟨a0, a1, a2, b0, b1, b2, d0, d1, d2, e0, e1, e2, c'.cell k5, c'.cell k0⟩)
  have HNW : Hid (∀ W, Grow w6 W → Calls Tryz.prog 29 #[.int .i64 1000] W fun e w' => ∃ b g, e = .returned (.pointer (some ⟨b, 0, none⟩)) ∧ Ar w' b g (zeros 1000) ∧ Grow W w' ∧ W.heap.size ≤ b ∧ W.heap.size ≤ g ∧ b < w'.heap.size ∧ g < w'.heap.size) := hide (fun W c' => (L1.new_any 1000 W).mono fun e w' ⟨he, ha, hc⟩ => ⟨_, _, he, ha, hc, Nat.le_succ _, Nat.le_refl _, ha.1.lt, ha.2.lt⟩)
  have HCD : Hid (∀ W, Grow w6 W → Calls Tryz.prog 11 #[.int .i64 1, .int .i64 401] W fun e w' => ∃ p m g, e = .returned (.pointer (some ⟨p, 0, none⟩)) ∧ Ct w' p m g 1 401 no ∧ W.heap.size ≤ p ∧ W.heap.size ≤ m ∧ W.heap.size ≤ g ∧ Grow W w') := hide (fun W c' => tb_new 1 401 W (by decide) (by decide))
  go_cut [9] from 23 (fun hv wx => ∃ b g p pc mc gc z, hv = ptr p ∧ Blk wx p 40 [.pointer (some ⟨b, 0, none⟩), .pointer (some ⟨tg, 0, none⟩), .pointer none, .pointer none, .int .i64 1, .int .i64 1, .int .i64 401, .int .i64 401, .int .i64 401, .int .i64 601, .int .i64 601, .int .i64 601, .int .i64 E2, .int .i64 E2, .int .i64 E2, .int .i64 E3, .int .i64 T8, .slice none 0 0, .slice none 0 0, .pointer (some ⟨pc, 0, none⟩), .slice ca cl cc] ∧ Ar wx b g (zeros 1000) ∧ Ct wx pc mc gc 1 401 no ∧ Grow w6 wx ∧ (w6.heap.size ≤ b ∧ w6.heap.size ≤ g ∧ w6.heap.size ≤ p) ∧ (b < z ∧ g < z ∧ w6.heap.size ≤ z ∧ z ≤ pc ∧ z ≤ mc ∧ z ≤ gc ∧ z ≤ wx.heap.size) ∧ (p ≠ pc ∧ p ≠ mc ∧ p ≠ gc))
  case first =>
    have hk0 := hide (HKS.out w6 (Chg.refl _ _))
    have hk1 := hide (HKS.out w6.drew (Chg.drew (Chg.refl _ _)))
    have hk2 := hide (HKS.out (w6.alloc (.cells #[.pointer none, .pointer none, .pointer none, .pointer none, .int .i64 0, .int .i64 0, .int .i64 0, .int .i64 0, .int .i64 0, .int .i64 0, .int .i64 0, .int .i64 0, .int .i64 0, .int .i64 0, .int .i64 0, .int .i64 0, .int .i64 0, .slice none 0 0, .slice none 0 0, .pointer none, .slice none 0 0] 40)).drew (Chg.drew ((Chg.refl _ _).alloc _)))
    have hk3 := hide (HKS.out (w6.drew.alloc (.cells #[.pointer none, .pointer none, .pointer none, .pointer none, .int .i64 0, .int .i64 0, .int .i64 0, .int .i64 0, .int .i64 0, .int .i64 0, .int .i64 0, .int .i64 0, .int .i64 0, .int .i64 0, .int .i64 0, .int .i64 0, .int .i64 0, .slice none 0 0, .slice none 0 0, .pointer none, .slice none 0 0] 40)) ((Chg.drew (Chg.refl _ _)).alloc _))
    clear k0 k5
    go_region_held3 (fun W => W.cell? ⟨sg, 0, none⟩ = some (.int .i64 1) ∧ W.cell? ⟨sg, 1, none⟩ = some (.int .i64 1) ∧ W.cell? ⟨sg, 2, none⟩ = some (.int .i64 401) ∧ W.cell? ⟨sg, 3, none⟩ = some (.int .i64 401) ∧ W.cell? ⟨sg, 4, none⟩ = some (.int .i64 401) ∧ W.cell? ⟨sg, 5, none⟩ = some (.int .i64 601) ∧ W.cell? ⟨sg, 6, none⟩ = some (.int .i64 601) ∧ W.cell? ⟨sg, 7, none⟩ = some (.int .i64 601) ∧ W.cell? ⟨sg, 8, none⟩ = some (.int .i64 E2) ∧ W.cell? ⟨sg, 9, none⟩ = some (.int .i64 E2) ∧ W.cell? ⟨sg, 10, none⟩ = some (.int .i64 E2) ∧ W.cell? ⟨sg, 11, none⟩ = some (.int .i64 E3) ∧ W.cell? ⟨bw, 5, none⟩ = some (.int .u8 th) ∧ W.cell? ⟨bw, 0, none⟩ = some (.slice ca cl cc))
      (first | with_reducible exact hk0.out | with_reducible exact hk1.out | with_reducible exact hk2.out | with_reducible exact hk3.out | with_reducible exact hk4.out | with_reducible exact hk5.out | with_reducible exact hk6.out | with_reducible exact hk7.out | with_reducible exact hk8.out)
      (first
        | (go_at_call 29; (with_reducible refine (HNW.out _ (Chg.drew (Chg.refl _ _))).mono ?_); rintro e w7 ⟨b, g, rfl, har, g7, u1, u2, u3, u4⟩; (have G7 := Chg.trans (Chg.drew (Chg.refl (fun _ => False) w6)) g7); (have hk4 := hide (HKS.out w7 G7)); (have hk5 := hide (HKS.out (w7.alloc (.cells #[.pointer none, .pointer none, .pointer none, .pointer none, .int .i64 0, .int .i64 0, .int .i64 0, .int .i64 0, .int .i64 0, .int .i64 0, .int .i64 0, .int .i64 0, .int .i64 0, .int .i64 0, .int .i64 0, .int .i64 0, .int .i64 0, .slice none 0 0, .slice none 0 0, .pointer none, .slice none 0 0] 40)) (G7.alloc _))))
        | (go_at_call 29; (with_reducible refine (HNW.out _ (Chg.drew ((Chg.refl _ _).alloc _))).mono ?_); rintro e w7 ⟨b, g, rfl, har, g7, u1, u2, u3, u4⟩; (have G7 := Chg.trans (Chg.drew ((Chg.refl (fun _ => False) w6).alloc _)) g7); (have hz7 := ((Blk.new w6 40 [.pointer none, .pointer none, .pointer none, .pointer none, .int .i64 0, .int .i64 0, .int .i64 0, .int .i64 0, .int .i64 0, .int .i64 0, .int .i64 0, .int .i64 0, .int .i64 0, .int .i64 0, .int .i64 0, .int .i64 0, .int .i64 0, .slice none 0 0, .slice none 0 0, .pointer none, .slice none 0 0]).drew).chg g7 id); (have hk4 := hide (HKS.out w7 G7)))
        | (go_at_call 11; (with_reducible refine (HCD.out w7 G7).mono ?_); rintro e w8 ⟨pc, mc, gc, rfl, hct, y1, y2, y3, g8⟩; (have hk6 := hide (HKS.out w8 (G7.trans g8))); (have hk7 := hide (HKS.out (w8.alloc (.cells #[.pointer none, .pointer none, .pointer none, .pointer none, .int .i64 0, .int .i64 0, .int .i64 0, .int .i64 0, .int .i64 0, .int .i64 0, .int .i64 0, .int .i64 0, .int .i64 0, .int .i64 0, .int .i64 0, .int .i64 0, .int .i64 0, .slice none 0 0, .slice none 0 0, .pointer none, .slice none 0 0] 40)) ((G7.trans g8).alloc _))); (first
            | ((have hz8 := hz7.chg g8 id); (have hSR : (stLife (.pointer (some ⟨w6.heap.size, 0, none⟩)) (.agg #[.pointer (some ⟨b, 0, none⟩), .pointer (some ⟨tg, 0, none⟩), .pointer none, .pointer none, .int .i64 1, .int .i64 1, .int .i64 401, .int .i64 401, .int .i64 401, .int .i64 601, .int .i64 601, .int .i64 601, .int .i64 E2, .int .i64 E2, .int .i64 E2, .int .i64 E3, .int .i64 T8, .slice none 0 0, .slice none 0 0, .pointer (some ⟨pc, 0, none⟩), .slice ca cl cc])).run Tryz.prog w8 = .ok () (w8.setRow w6.heap.size #[.pointer (some ⟨b, 0, none⟩), .pointer (some ⟨tg, 0, none⟩), .pointer none, .pointer none, .int .i64 1, .int .i64 1, .int .i64 401, .int .i64 401, .int .i64 401, .int .i64 601, .int .i64 601, .int .i64 601, .int .i64 E2, .int .i64 E2, .int .i64 E2, .int .i64 E3, .int .i64 T8, .slice none 0 0, .slice none 0 0, .pointer (some ⟨pc, 0, none⟩), .slice ca cl cc]) := run_storeAt_row hz8 life_sz rfl (life_nw b (some ⟨tg, 0, none⟩) pc E2 E3 T8 ca cl cc)); (have hk8 := hide (HKS.out (w8.setRow w6.heap.size #[.pointer (some ⟨b, 0, none⟩), .pointer (some ⟨tg, 0, none⟩), .pointer none, .pointer none, .int .i64 1, .int .i64 1, .int .i64 401, .int .i64 401, .int .i64 401, .int .i64 601, .int .i64 601, .int .i64 601, .int .i64 E2, .int .i64 E2, .int .i64 E2, .int .i64 E3, .int .i64 T8, .slice none 0 0, .slice none 0 0, .pointer (some ⟨pc, 0, none⟩), .slice ca cl cc]) ((G7.trans g8).step (chg_setRow _ _) (fun i hi e => by have h1 : i = w6.heap.size := e; omega)))))
            | ((have hSR : (stLife (.pointer (some ⟨w8.heap.size, 0, none⟩)) (.agg #[.pointer (some ⟨b, 0, none⟩), .pointer (some ⟨tg, 0, none⟩), .pointer none, .pointer none, .int .i64 1, .int .i64 1, .int .i64 401, .int .i64 401, .int .i64 401, .int .i64 601, .int .i64 601, .int .i64 601, .int .i64 E2, .int .i64 E2, .int .i64 E2, .int .i64 E3, .int .i64 T8, .slice none 0 0, .slice none 0 0, .pointer (some ⟨pc, 0, none⟩), .slice ca cl cc])).run Tryz.prog (w8.alloc (.cells #[.pointer none, .pointer none, .pointer none, .pointer none, .int .i64 0, .int .i64 0, .int .i64 0, .int .i64 0, .int .i64 0, .int .i64 0, .int .i64 0, .int .i64 0, .int .i64 0, .int .i64 0, .int .i64 0, .int .i64 0, .int .i64 0, .slice none 0 0, .slice none 0 0, .pointer none, .slice none 0 0] 40)) = .ok () ((w8.alloc (.cells #[.pointer none, .pointer none, .pointer none, .pointer none, .int .i64 0, .int .i64 0, .int .i64 0, .int .i64 0, .int .i64 0, .int .i64 0, .int .i64 0, .int .i64 0, .int .i64 0, .int .i64 0, .int .i64 0, .int .i64 0, .int .i64 0, .slice none 0 0, .slice none 0 0, .pointer none, .slice none 0 0] 40)).setRow w8.heap.size #[.pointer (some ⟨b, 0, none⟩), .pointer (some ⟨tg, 0, none⟩), .pointer none, .pointer none, .int .i64 1, .int .i64 1, .int .i64 401, .int .i64 401, .int .i64 401, .int .i64 601, .int .i64 601, .int .i64 601, .int .i64 E2, .int .i64 E2, .int .i64 E2, .int .i64 E3, .int .i64 T8, .slice none 0 0, .slice none 0 0, .pointer (some ⟨pc, 0, none⟩), .slice ca cl cc]) := run_storeAt_row (Blk.new w8 40 [.pointer none, .pointer none, .pointer none, .pointer none, .int .i64 0, .int .i64 0, .int .i64 0, .int .i64 0, .int .i64 0, .int .i64 0, .int .i64 0, .int .i64 0, .int .i64 0, .int .i64 0, .int .i64 0, .int .i64 0, .int .i64 0, .slice none 0 0, .slice none 0 0, .pointer none, .slice none 0 0]) life_sz rfl (life_nw b (some ⟨tg, 0, none⟩) pc E2 E3 T8 ca cl cc)); (have hk8 := hide (HKS.out ((w8.alloc (.cells #[.pointer none, .pointer none, .pointer none, .pointer none, .int .i64 0, .int .i64 0, .int .i64 0, .int .i64 0, .int .i64 0, .int .i64 0, .int .i64 0, .int .i64 0, .int .i64 0, .int .i64 0, .int .i64 0, .int .i64 0, .int .i64 0, .slice none 0 0, .slice none 0 0, .pointer none, .slice none 0 0] 40)).setRow w8.heap.size #[.pointer (some ⟨b, 0, none⟩), .pointer (some ⟨tg, 0, none⟩), .pointer none, .pointer none, .int .i64 1, .int .i64 1, .int .i64 401, .int .i64 401, .int .i64 401, .int .i64 601, .int .i64 601, .int .i64 601, .int .i64 E2, .int .i64 E2, .int .i64 E2, .int .i64 E3, .int .i64 T8, .slice none 0 0, .slice none 0 0, .pointer (some ⟨pc, 0, none⟩), .slice ca cl cc]) (((G7.trans g8).alloc (.cells #[.pointer none, .pointer none, .pointer none, .pointer none, .int .i64 0, .int .i64 0, .int .i64 0, .int .i64 0, .int .i64 0, .int .i64 0, .int .i64 0, .int .i64 0, .int .i64 0, .int .i64 0, .int .i64 0, .int .i64 0, .int .i64 0, .slice none 0 0, .slice none 0 0, .pointer none, .slice none 0 0] 40)).step (chg_setRow _ _) (fun i hi e => by have h1 : i = w8.heap.size := e; have h2 := (G7.trans g8).size; omega)))))))
        | (go_at_call 11; (with_reducible refine (HCD.out _ (G7.alloc _)).mono ?_); rintro e w8 ⟨pc, mc, gc, rfl, hct, y1, y2, y3, g8⟩; (have hz8 := (Blk.new w7 40 [.pointer none, .pointer none, .pointer none, .pointer none, .int .i64 0, .int .i64 0, .int .i64 0, .int .i64 0, .int .i64 0, .int .i64 0, .int .i64 0, .int .i64 0, .int .i64 0, .int .i64 0, .int .i64 0, .int .i64 0, .int .i64 0, .slice none 0 0, .slice none 0 0, .pointer none, .slice none 0 0]).chg g8 id); (have G8 := (G7.alloc (.cells #[.pointer none, .pointer none, .pointer none, .pointer none, .int .i64 0, .int .i64 0, .int .i64 0, .int .i64 0, .int .i64 0, .int .i64 0, .int .i64 0, .int .i64 0, .int .i64 0, .int .i64 0, .int .i64 0, .int .i64 0, .int .i64 0, .slice none 0 0, .slice none 0 0, .pointer none, .slice none 0 0] 40)).trans g8); (have hk6 := hide (HKS.out w8 G8)); (have hSR : (stLife (.pointer (some ⟨w7.heap.size, 0, none⟩)) (.agg #[.pointer (some ⟨b, 0, none⟩), .pointer (some ⟨tg, 0, none⟩), .pointer none, .pointer none, .int .i64 1, .int .i64 1, .int .i64 401, .int .i64 401, .int .i64 401, .int .i64 601, .int .i64 601, .int .i64 601, .int .i64 E2, .int .i64 E2, .int .i64 E2, .int .i64 E3, .int .i64 T8, .slice none 0 0, .slice none 0 0, .pointer (some ⟨pc, 0, none⟩), .slice ca cl cc])).run Tryz.prog w8 = .ok () (w8.setRow w7.heap.size #[.pointer (some ⟨b, 0, none⟩), .pointer (some ⟨tg, 0, none⟩), .pointer none, .pointer none, .int .i64 1, .int .i64 1, .int .i64 401, .int .i64 401, .int .i64 401, .int .i64 601, .int .i64 601, .int .i64 601, .int .i64 E2, .int .i64 E2, .int .i64 E2, .int .i64 E3, .int .i64 T8, .slice none 0 0, .slice none 0 0, .pointer (some ⟨pc, 0, none⟩), .slice ca cl cc]) := run_storeAt_row hz8 life_sz rfl (life_nw b (some ⟨tg, 0, none⟩) pc E2 E3 T8 ca cl cc)); (have hk8 := hide (HKS.out (w8.setRow w7.heap.size #[.pointer (some ⟨b, 0, none⟩), .pointer (some ⟨tg, 0, none⟩), .pointer none, .pointer none, .int .i64 1, .int .i64 1, .int .i64 401, .int .i64 401, .int .i64 401, .int .i64 601, .int .i64 601, .int .i64 601, .int .i64 E2, .int .i64 E2, .int .i64 E2, .int .i64 E3, .int .i64 T8, .slice none 0 0, .slice none 0 0, .pointer (some ⟨pc, 0, none⟩), .slice ca cl cc]) (G8.step (chg_setRow _ _) (fun i hi e => by have h1 : i = w7.heap.size := e; have h2 := G7.size; omega)))))
        | fail)
    · go_wp2_with fail
      go_meet
      case rel =>
        obtain ⟨n1, n2⟩ := new_life w8 [.pointer (some ⟨b, 0, none⟩), .pointer (some ⟨tg, 0, none⟩), .pointer none, .pointer none, .int .i64 1, .int .i64 1, .int .i64 401, .int .i64 401, .int .i64 401, .int .i64 601, .int .i64 601, .int .i64 601, .int .i64 E2, .int .i64 E2, .int .i64 E2, .int .i64 E3, .int .i64 T8, .slice none 0 0, .slice none 0 0, .pointer (some ⟨pc, 0, none⟩), .slice ca cl cc]
        have s1 := G7.size
        have s2 := g8.size
        have s3 : w8.heap.size ≤ ((w8.alloc (.cells #[.pointer none, .pointer none, .pointer none, .pointer none, .int .i64 0, .int .i64 0, .int .i64 0, .int .i64 0, .int .i64 0, .int .i64 0, .int .i64 0, .int .i64 0, .int .i64 0, .int .i64 0, .int .i64 0, .int .i64 0, .int .i64 0, .slice none 0 0, .slice none 0 0, .pointer none, .slice none 0 0] 40)).setRow w8.heap.size #[.pointer (some ⟨b, 0, none⟩), .pointer (some ⟨tg, 0, none⟩), .pointer none, .pointer none, .int .i64 1, .int .i64 1, .int .i64 401, .int .i64 401, .int .i64 401, .int .i64 601, .int .i64 601, .int .i64 601, .int .i64 E2, .int .i64 E2, .int .i64 E2, .int .i64 E3, .int .i64 T8, .slice none 0 0, .slice none 0 0, .pointer (some ⟨pc, 0, none⟩), .slice ca cl cc]).heap.size := n2.size
        have s4 := hct.plt
        have s5 := hct.mlt
        have s6 := hct.glt
        have s7 : w6.heap.size ≤ b := u1
        have s8 : w6.heap.size ≤ g := u2
        clear p1 p2 p3 p5 hSR
        exact ⟨b, g, w8.heap.size, pc, mc, gc, w7.heap.size, rfl, n1, har.chg (g8.trans n2) id id, hct.grow n2, (G7.trans g8).trans n2, ⟨s7, s8, by omega⟩, ⟨u3, u4, s1, y1, y2, y3, by omega⟩, ⟨by omega, by omega, by omega⟩⟩
    · go_wp2_with fail
      go_meet
      case rel =>
        have cS : Chg (· = w7.heap.size) w8 (w8.setRow w7.heap.size #[.pointer (some ⟨b, 0, none⟩), .pointer (some ⟨tg, 0, none⟩), .pointer none, .pointer none, .int .i64 1, .int .i64 1, .int .i64 401, .int .i64 401, .int .i64 401, .int .i64 601, .int .i64 601, .int .i64 601, .int .i64 E2, .int .i64 E2, .int .i64 E2, .int .i64 E3, .int .i64 T8, .slice none 0 0, .slice none 0 0, .pointer (some ⟨pc, 0, none⟩), .slice ca cl cc]) := chg_setRow _ _
        have s0 := alloc_size w7 (.cells lf0.toArray 40)
        have s1 := G7.size
        have s2 := g8.size
        have s3 := cS.size
        have s7 : w6.heap.size ≤ b := u1
        have s8 : w6.heap.size ≤ g := u2
        have y1' : (w7.alloc (.cells lf0.toArray 40)).heap.size ≤ pc := y1
        have y2' : (w7.alloc (.cells lf0.toArray 40)).heap.size ≤ mc := y2
        have y3' : (w7.alloc (.cells lf0.toArray 40)).heap.size ≤ gc := y3
        have s2' : (w7.alloc (.cells lf0.toArray 40)).heap.size ≤ w8.heap.size := s2
        clear p1 p2 p3 p5 hSR y1 y2 y3 s2
        exact ⟨b, g, w7.heap.size, pc, mc, gc, w7.heap.size, rfl, blk_row hz8 [.pointer (some ⟨b, 0, none⟩), .pointer (some ⟨tg, 0, none⟩), .pointer none, .pointer none, .int .i64 1, .int .i64 1, .int .i64 401, .int .i64 401, .int .i64 401, .int .i64 601, .int .i64 601, .int .i64 601, .int .i64 E2, .int .i64 E2, .int .i64 E2, .int .i64 E3, .int .i64 T8, .slice none 0 0, .slice none 0 0, .pointer (some ⟨pc, 0, none⟩), .slice ca cl cc], (har.chg ((Grow.box w7 (.cells lf0.toArray 40)).trans g8) id id).chg cS (show ¬ b = w7.heap.size by omega) (show ¬ g = w7.heap.size by omega), hct.chg cS (show ¬ pc = w7.heap.size by omega) (show ¬ mc = w7.heap.size by omega) (show ¬ gc = w7.heap.size by omega), G8.step cS (fun i hi e => by have e' : i = w7.heap.size := e; omega), ⟨s7, s8, s1⟩, ⟨u3, u4, s1, by omega, by omega, by omega, by omega⟩, ⟨by omega, by omega, by omega⟩⟩
    · go_wp2_with fail
      go_meet
      case rel =>
        have cS : Chg (· = w6.heap.size) w8 (w8.setRow w6.heap.size #[.pointer (some ⟨b, 0, none⟩), .pointer (some ⟨tg, 0, none⟩), .pointer none, .pointer none, .int .i64 1, .int .i64 1, .int .i64 401, .int .i64 401, .int .i64 401, .int .i64 601, .int .i64 601, .int .i64 601, .int .i64 E2, .int .i64 E2, .int .i64 E2, .int .i64 E3, .int .i64 T8, .slice none 0 0, .slice none 0 0, .pointer (some ⟨pc, 0, none⟩), .slice ca cl cc]) := chg_setRow _ _
        have s0 := alloc_size w6 (.cells lf0.toArray 40)
        have s1 := G7.size
        have s2 := g8.size
        have s3 := cS.size
        have s7 : (w6.alloc (.cells lf0.toArray 40)).heap.size ≤ b := u1
        have s8 : (w6.alloc (.cells lf0.toArray 40)).heap.size ≤ g := u2
        clear p1 p2 p3 p5 hSR u1 u2
        exact ⟨b, g, w6.heap.size, pc, mc, gc, w7.heap.size, rfl, blk_row hz8 [.pointer (some ⟨b, 0, none⟩), .pointer (some ⟨tg, 0, none⟩), .pointer none, .pointer none, .int .i64 1, .int .i64 1, .int .i64 401, .int .i64 401, .int .i64 401, .int .i64 601, .int .i64 601, .int .i64 601, .int .i64 E2, .int .i64 E2, .int .i64 E2, .int .i64 E3, .int .i64 T8, .slice none 0 0, .slice none 0 0, .pointer (some ⟨pc, 0, none⟩), .slice ca cl cc], (har.chg g8 id id).chg cS (show ¬ b = w6.heap.size by omega) (show ¬ g = w6.heap.size by omega), hct.chg cS (show ¬ pc = w6.heap.size by omega) (show ¬ mc = w6.heap.size by omega) (show ¬ gc = w6.heap.size by omega), (G7.trans g8).step cS (fun i hi e => by have e' : i = w6.heap.size := e; omega), ⟨by omega, by omega, Nat.le_refl _⟩, ⟨u3, u4, s1, y1, y2, y3, by omega⟩, ⟨by omega, by omega, by omega⟩⟩
  case rest =>
    obtain ⟨b, g, p, pc, mc, gc, z, rfl, hp, har, hct, g9, ⟨b1, b2, b3⟩, ⟨z1, z2, z3, z4, z5, z6, z7⟩, n1, n2, n3⟩ := hcut
    have hbw6 : bw < w6.heap.size := hw.lt
    have hr6 : r < w6.heap.size := hr.lt
    have hw9 := hw.chg g9 id
    have hr9 := hr.chg g9 id
    have cw9 := cw.trans g9
    have l0 : wc.cell? ⟨p, 0, none⟩ = some (.pointer (some ⟨b, 0, none⟩)) := hp.cell 0
    clear k0 k5 p1 p2 p3 p5 HKS HNW HCD
    go_wp2_with fail
    clear l0
    refine (L6.on_any _ _ _).mono ?_
    rintro e w10 ⟨rfl, c10⟩
    have hp10 := hp.chg c10 id
    have f2 := hp10.frozen 2
    have f3 := hp10.frozen 3
    have l2 : w10.cell? ⟨p, 2, none⟩ = some (.pointer none) := hp10.cell 2
    have l3 : w10.cell? ⟨p, 3, none⟩ = some (.pointer none) := hp10.cell 3
    have c11 : Chg (· = p) w10 ((w10.setCell ⟨p, 2, none⟩ (.pointer (some ⟨b, 0, none⟩))).setCell ⟨p, 3, none⟩ (.pointer (some ⟨tg, 0, none⟩))) := ((Chg.refl _ _).set1 2 _).set1 3 _
    have hp11 : Blk ((w10.setCell ⟨p, 2, none⟩ (.pointer (some ⟨b, 0, none⟩))).setCell ⟨p, 3, none⟩ (.pointer (some ⟨tg, 0, none⟩))) p 40 (lfCs b (some ⟨tg, 0, none⟩) ⟨1, 1, 401, 401, 401, 601, 601, 601, E2, E2, E2, E3, T8⟩ (.slice none 0 0) (.slice none 0 0) pc (.slice ca cl cc)) := (hp10.set_ 2 (.pointer (some ⟨b, 0, none⟩))).set_ 3 (.pointer (some ⟨tg, 0, none⟩))
    go_upto_region 10 with fail
    generalize (w10.setCell ⟨p, 2, none⟩ (.pointer (some ⟨b, 0, none⟩))).setCell ⟨p, 3, none⟩ (.pointer (some ⟨tg, 0, none⟩)) = w11 at *
    clear f2 f3 l2 l3 hp10
    have hwp : bw ≠ p := by omega
    have hrp : r ≠ p := by omega
    have hw11 := (hw9.chg c10 id).chg c11 hwp
    have hr11 := (hr9.chg c10 id).chg c11 hrp
    have hww : w.heap.size ≤ w6.heap.size := cw.size
    have cw11 : Grow w w11 := (cw9.trans c10).step c11 fun i hi e => by omega
    have hct11 := (hct.grow c10).chg c11 n1.symm n2.symm n3.symm
    have h611 : w6.heap.size ≤ w11.heap.size := by have := g9.size; have := c10.size; have := c11.size; omega
    have hz11 : z ≤ w11.heap.size := by have := c10.size; have := c11.size; omega
    have H5 := HT.out
    have har11 : Ar w11 b g (zeros 1000) := (har.chg c10 id id).chg c11 (har.1.ne_ hp (by decide)) (har.2.ne_ hp (by decide))
    have ht6 : Tb w6 w4.heap.size (some ⟨tg, 0, none⟩) tv cs := H5.grow HG56.out
    have hLF : Lf w11 z w11.heap.size b (some ⟨tg, 0, none⟩) g p ca cl cc (.slice none 0 0) (.slice none 0 0) pc (Fx.new cs h T8) (zeros 1000) [] h := by
      have hne : ∀ k, tv.ownBlock = some k → k < w6.heap.size := fun k e => (ht6.1.lt k e).2
      have htl : tg < w6.heap.size := by
        rcases ht6.2 with ⟨e, _⟩ | ⟨k, e, _, hk⟩
        · cases e
        · injection e with e; injection e with e; subst e; exact hk.lt
      have ht11 : Tb w11 w4.heap.size (some ⟨tg, 0, none⟩) tv cs := tb_keep ((ht6.grow g9).grow c10) c11 (fun k e hk => by have := hne k e; omega) (fun k e hk => by injection e with e; injection e with e; omega)
      obtain ⟨e1, e2⟩ := L5.new_zero HX.out
      have hst : St w11 (some ⟨b, 0, none⟩) (some ⟨tg, 0, none⟩) g (zeros 1000) cs := ⟨.inr ⟨b, rfl, har11⟩, ⟨_, _, ht11, fun e => by have := hne g e; omega, fun e => by injection e with e; injection e with e; omega⟩, by rw [zeros_length]; decide, by omega, e1⟩
      refine ⟨⟨hst, z1, z2, _, _, ht11, fun e => by have := hne g e; omega, fun e => by injection e with e; injection e with e; omega, fun k e => by have := hne k e; omega, fun k e => by injection e with e; injection e with e; omega⟩, ?_, ?_, ol_nil _ _, ol_nil _ _, (fun k e => by cases e), hz11, Nat.le_refl _⟩
      · have hye : (Fx.new cs h T8).y = ⟨1, 1, 401, 401, 401, 601, 601, 601, E2, E2, E2, E3, T8⟩ := by rw [← HE.out.2, ← HE.out.1]; rfl
        rw [hye]
        exact hp11
      · refine Bd.start (zeros_length 1000) e1 HH.out.2 ?_
        have := HT8.out
        omega
    obtain ⟨yl, hzl⟩ : ∃ yl, w11.heap.size = yl := ⟨_, rfl⟩
    rw [hzl] at hLF
    have hlt : pc < yl ∧ mc < yl ∧ gc < yl ∧ p < yl := by
      have h1 := hct11.plt; have h2 := hct11.mlt; have h3 := hct11.glt; have h4 := hp11.lt
      omega
    have HZ := hide (show z ≤ yl ∧ w6.heap.size ≤ yl ∧ w.heap.size ≤ w6.heap.size ∧ bw < w6.heap.size ∧ r < w6.heap.size ∧ w6.heap.size ≤ g ∧ w6.heap.size ≤ p ∧ g < z ∧ (z ≤ pc ∧ z ≤ mc ∧ z ≤ gc) ∧ (pc < yl ∧ mc < yl ∧ gc < yl ∧ p < yl) ∧ (p ≠ pc ∧ p ≠ mc ∧ p ≠ gc) from ⟨by omega, by omega, hww, hbw6, hr6, b2, b3, z2, ⟨z4, z5, z6⟩, hlt, n1, n2, n3⟩)
    have HGR : Hid (∀ W, Chg (fun i => i = g ∨ i = p ∨ yl ≤ i) w11 W → Grow w W) := hide (fun W c => cw11.step c fun i hi e => by have := HZ.out; omega)
    have HWO : Hid (∀ W, Chg (fun i => i = g ∨ i = p ∨ yl ≤ i) w11 W → IsWo W ⟨ca, cl, cc, ta, tl, tc, ra, rl, rc, za, zl, zc, hf, th⟩ cs gs ts zs) := hide (fun W c => HW.out.chg (HGR.out W c) fun _ _ => id)
    have HBW : Hid (∀ W, Chg (fun i => i = g ∨ i = p ∨ yl ≤ i) w11 W → W.cell? ⟨bw, 1, none⟩ = some (.slice ta tl tc) ∧ W.cell? ⟨bw, 2, none⟩ = some (.slice ra rl rc) ∧ W.cell? ⟨bw, 3, none⟩ = some (.slice za zl zc)) := hide (fun W c => by
      have hz := HZ.out
      have := hw11.chg c (by show ¬ (bw = g ∨ bw = p ∨ yl ≤ bw); omega)
      exact ⟨this.cell 1, this.cell 2, this.cell 3⟩)
    have HRB : Hid (∀ W, Chg (fun i => i = g ∨ i = p ∨ yl ≤ i) w11 W → Blk W r 40 lf0) := hide (fun W c => by
      have hz := HZ.out
      exact hr11.chg c (by show ¬ (r = g ∨ r = p ∨ yl ≤ r); omega))
    have HCT : Hid (∀ W, Chg (fun i => i = g ∨ i = p ∨ yl ≤ i) w11 W → Ct W pc mc gc 1 401 no) := hide (fun W c => by
      have hz := HZ.out
      exact hct11.chg c (by show ¬ (pc = g ∨ pc = p ∨ yl ≤ pc); omega) (by show ¬ (mc = g ∨ mc = p ∨ yl ≤ mc); omega) (by show ¬ (gc = g ∨ gc = p ∨ yl ≤ gc); omega))
    have HLF := hide hLF
    have HFR := hide fr
    clear hLF hp hp11 har har11 hct hct11 g9 c10 c11 hw hr cw hw9 hr9 cw9 hw11 hr11 cw11 b1 b2 b3 z1 z2 z3 z4 z5 z6 z7 n1 n2 n3 hbw6 hr6 hwp hrp hww h611 hz11 H5 ht6 hzl hlt fw fr nwr HT HO1 hc1 hm1
    obtain ⟨F0, hF0⟩ : ∃ F0, Fx.new cs h T8 = F0 := ⟨_, rfl⟩
    have HF0 := hide hF0
    rw [hF0] at HLF
    have HCS0 := hide (show F0.cs = cs by rw [← hF0]; rfl)
    have HZS0 := hide (show F0.zs = [] by rw [← hF0]; rfl)
    clear hF0
    obtain ⟨k1, k2, k3⟩ := HBW.out w11 (Chg.refl _ _)
    go_wp2_with fail
    clear k1 k2 k3
    go_loopw [110] (fun v wr => ∃ (k : Nat) (av : Value) (xs : List Int), k ≤ tl ∧ v = .int .i64 k ∧ Lf wr z yl b (some ⟨tg, 0, none⟩) g p ca cl cc av (.slice none 0 0) pc (F0.lays (gs.take k)) xs [] h ∧ Chg (fun i => i = g ∨ i = p ∨ yl ≤ i) w11 wr) (fun v _ => tl - (intOf v).toNat)
    case atStart => exact ⟨0, _, _, Nat.zero_le _, rfl, HLF.out, Chg.refl _ _⟩
    case round =>
      clear HLF
      obtain ⟨k, av, xs, hk, rfl, hlf, cc1⟩ := hrel
      have hwo := HWO.out _ cc1
      obtain ⟨k1, k2, k3⟩ := HBW.out _ cc1
      have hgl : gs.length = tl := hwo.t.1
      rcases Nat.eq_or_lt_of_le hk with hke | hlt
      · have q1 : decide ((k : Int) < tl) = false := decide_eq_false (by omega)
        subst hke
        rw [List.take_of_length_le (by omega)] at hlf
        have HLF := hide hlf
        have HC1 := hide cc1
        clear hlf cc1 hwo hk
        obtain ⟨F1, hF1⟩ : ∃ F1, F0.lays gs = F1 := ⟨_, rfl⟩
        have HF1 := hide hF1
        rw [hF1] at HLF
        have HCS1 := hide (show F1.cs = cs by rw [← hF1]; exact (lays_cs _ _).1.trans HCS0.out)
        have HM60 := hide (show F1.zs.length ≤ 60 by
          have := lays_len gs F0
          rw [HZS0.out, hF1] at this
          simp only [List.length_nil] at this
          have := HL.out
          omega)
        clear hF1
        obtain ⟨aa, ac, hav⟩ := own_len HLF.out.ol
        obtain ⟨M, hM⟩ : ∃ M, F1.zs.length = M := ⟨_, rfl⟩
        rw [hM] at hav HM60
        have HM := hide hM
        subst hav
        have l17 : wr.cell? ⟨p, 17, none⟩ = some (.slice aa M ac) := HLF.out.bl.cell 17
        clear hM
        go_upto_block 2 with fail
        clear l17 k1 k2 k3 q1
        go_cut [12, 13, 14, 15, 16, 17, 18] from 23 (fun v12 v13 v14 v15 v16 v17 v18 wx => ∃ xs', Lf wx z yl b (some ⟨tg, 0, none⟩) g p ca cl cc (.slice aa M ac) (.slice none 0 0) pc (F1.lns ts) xs' [] h ∧ Chg (fun i => i = g ∨ i = p ∨ yl ≤ i) w11 wx)
        case first =>
          as_aux_lemma =>
          obtain ⟨k1, k2, k3⟩ := HBW.out _ HC1.out
          go_wp2_with fail
          clear k1 k2 k3
          go_loopw [126] (fun v wr => ∃ (k2 : Nat) (xs : List Int), k2 ≤ rl ∧ v = .int .i64 k2 ∧ Lf wr z yl b (some ⟨tg, 0, none⟩) g p ca cl cc (.slice aa M ac) (.slice none 0 0) pc (F1.lns (ts.take k2)) xs [] h ∧ Chg (fun i => i = g ∨ i = p ∨ yl ≤ i) w11 wr) (fun v _ => rl - (intOf v).toNat)
          case atStart => exact ⟨0, _, Nat.zero_le _, rfl, HLF.out, HC1.out⟩
          case round =>
            clear HLF HC1
            obtain ⟨k2, xs2, hk, rfl, hlf, cc1⟩ := hrel
            have hwo := HWO.out _ cc1
            obtain ⟨k1, k2', k3⟩ := HBW.out _ cc1
            have hgl : ts.length = rl := hwo.r.1
            rcases Nat.eq_or_lt_of_le hk with hke | hlt
            · have q1 : decide ((k2 : Int) < rl) = false := decide_eq_false (by omega)
              subst hke
              rw [List.take_of_length_le (by omega)] at hlf
              have HLF := hide hlf
              have HC1 := hide cc1
              clear hlf cc1 hwo hk
              go_wp2_with fail
              go_meet
              case rel => exact ⟨_, HLF.out, HC1.out⟩
            · have q1 : decide ((k2 : Int) < rl) = true := decide_eq_true (by omega)
              have q2 : k2 < rl := hlt
              by_cases hM0 : M = 0
              · have q3 : ((M : Int) == 0) = true := by simp [hM0]
                have HLF := hide hlf
                have HC1 := hide cc1
                have HE0 := hide (show F1.lns (ts.take k2) = F1.lns ts by rw [lns_nil _ (HM.out.trans hM0), lns_nil _ (HM.out.trans hM0)])
                clear hlf cc1 hwo hk
                go_wp2_with fail
                go_meet
                case rel => exact ⟨_, by rw [← HE0.out]; exact HLF.out, HC1.out⟩
              · have q3 : ((M : Int) == 0) = false := by simpa using hM0
                obtain ⟨tb', to', t, hra, hgt, htB, x0, x1, x2⟩ := hwo.r.at_ hlt
                have hra : ra = some ⟨tb', to', none⟩ := hra
                have HTB : Hid (tb' < w.heap.size) := hide (by
                  obtain ⟨b2', o2', t2', e2, -, -, y0, -, -⟩ := HW.out.r.at_ (i := k2) hlt
                  have e3 : ra = some ⟨b2', o2', none⟩ := e2
                  rw [hra] at e3
                  injection e3 with e3
                  injection e3 with e3 _ _
                  rw [e3]
                  exact cell_lt y0)
                obtain ⟨ta2, tb2, tc2⟩ := t
                dsimp only at x0 x1 x2
                have htB : (0 ≤ ta2 ∧ ta2 ≤ 255) ∧ (0 ≤ tb2 ∧ tb2 ≤ 255) ∧ (0 ≤ tc2 ∧ tc2 ≤ 255) := htB
                have hzs : (F1.lns (ts.take k2)).zs = F1.zs := lns_zs _ _
                have hol' : wr.ownsRow yl 3 1 (.slice aa M ac) M (ints F1.zs) := by
                  have := hlf.ol
                  rw [hzs] at this
                  have h2 : wr.ownsRow yl 3 1 (.slice aa M ac) F1.zs.length (ints F1.zs) := this
                  rwa [HM.out] at h2
                obtain ⟨ag, ac2, hae, -, -, -, -, hcell⟩ := own_ints hol' (by omega)
                replace hae : aa = some ⟨ag, 0, none⟩ := by injection hae
                obtain ⟨ia, hia⟩ : ∃ ia, ta2.toNat % M = ia := ⟨_, rfl⟩
                obtain ⟨ic, hic⟩ : ∃ ic, tc2.toNat % (M + 1) = ic := ⟨_, rfl⟩
                have hial : ia < M := by rw [← hia]; exact Nat.mod_lt _ (by omega)
                have hicl : ic < M + 1 := by rw [← hic]; exact Nat.mod_lt _ (by omega)
                have r1 : ta2 % (M : Int) = (ia : Int) := by rw [rem_nat' htB.1.1 (by omega), hia]
                have r2 : tc2 % (((M + 1 : Nat) : Int)) = (ic : Int) := by rw [rem_nat' htB.2.2.1 (by omega), hic]
                obtain ⟨N1, hN1⟩ : ∃ N1 : Int, ((M + 1 : Nat) : Int) = N1 := ⟨_, rfl⟩
                rw [hN1] at r2
                obtain ⟨X, hX⟩ : ∃ X, F1.zs.getD ia 0 = X := ⟨_, rfl⟩
                have lx := hcell ia hial
                rw [hX] at lx
                have hXin : X ∈ (F1.lns (ts.take k2)).all := (hlf.bd.zi X).1 (by rw [hzs, ← hX]; exact getD_mem (by rw [HM.out]; exact hial))
                have hTOin : nthZ F1.zs ic = 0 ∨ nthZ F1.zs ic ∈ (F1.lns (ts.take k2)).all := by
                  rcases nthZ_in (zs := F1.zs) (k := ic) (by rw [HM.out]; omega) with e | e
                  · exact .inl e
                  · exact .inr ((hlf.bd.zi _).1 (by rw [hzs]; exact e))
                have HCELL := hide hcell
                have HXT := hide (And.intro hXin hTOin)
                have HN1 := hide hN1
                have HI := hide (show ta2.toNat % M = ia ∧ tc2.toNat % (M + 1) = ic ∧ F1.zs.getD ia 0 = X ∧ ts[k2]? = some ⟨ta2, tb2, tc2⟩ from ⟨hia, hic, hX, hgt⟩)
                have HB3 := hide htB
                have HLF := hide hlf
                have HC1 := hide cc1
                have HICL := hide hicl
                have l17 : wr.cell? ⟨p, 17, none⟩ = some (.slice aa M ac) := hlf.bl.cell 17
                subst hae
                subst hra
                have s0 : (0 : Int) ≤ ta2 := htB.1.1
                have s1 : (M : Int) ≠ 0 := by omega
                have s2 : wrap64 ta2 = ta2 := wrap64_id _ (by omega)
                have s3 : IntKind.i64.wrap ta2 = ta2 := IntWalk.i64_in _ (by omega)
                have s4 : ia < M := hial
                have s5 : (0 : Int) ≤ (ia : Int) := by omega
                have s6 : (ia : Int) < (M : Int) := by omega
                have s7 : (0 : Int) ≤ (k2 : Int) := by omega
                have s8 : (k2 : Int) < (rl : Int) := by omega
                clear hlf cc1 hwo hk hlt hgl hol' hcell hXin hTOin hia hic hX hgt htB hzs hicl hN1
                go_wp2_with fail
                go_quiet (fail)
                have gq : Grow wr (wr.drewN nq) := (Chg.refl (fun _ => False) wr).drewN nq
                have HLQ := hide (HLF.out.grow gq)
                have HCQ := hide (HC1.out.trans (gq.mono (S := (fun i => i = g ∨ i = p ∨ yl ≤ i)) fun _ _ h => h.elim))
                have HCL := hide (fun i (hi : i < M) => gq.cell (HCELL.out i hi))
                replace x1 := gq.cell x1
                replace x2 := gq.cell x2
                replace k2' := gq.cell k2'
                replace l17 := gq.cell l17
                generalize wr.drewN nq = wq at *
                have t0 : (0 : Int) ≤ tc2 := HB3.out.2.2.1
                have t1 : N1 ≠ 0 := by have := HN1.out; omega
                have t2 : wrap64 tc2 = tc2 := wrap64_id _ (by have := HB3.out; omega)
                have t3 : IntKind.i64.wrap tc2 = tc2 := IntWalk.i64_in _ (by have := HB3.out; omega)
                have t4 : wrap64 N1 = N1 := wrap64_id _ (by have := HM60.out; have := HN1.out; omega)
                have t5 : (M : Int) + 1 = N1 := by have := HN1.out; omega
                clear x0 lx gq HLF HC1 HCELL
                go_upto_if 155 with fail
                rw [r2]
                obtain ⟨IC, hIC⟩ : ∃ IC : Int, (ic : Int) = IC := ⟨_, rfl⟩
                rw [hIC]
                have HIC := hide hIC
                clear hIC
                clear s0 s1 s2 s3 s4 s5 s6 t0 t1 t2 t3 t4 t5 x2 r1 r2
                go_cut [126, 14] from 126 to 186 (fun i v wx => i = .int .i64 k2 ∧ v = .int .i64 (nthZ F1.zs ic) ∧ wx = wq)
                case first =>
                  by_cases hic0 : ic = 0
                  · have q4 : decide (IC > 0) = false := by have := HIC.out; simp; omega
                    have HV := hide (show (0 : Int) = nthZ F1.zs ic by rw [nthZ, if_pos hic0])
                    go_wp2_with fail
                    go_meet
                    case rel => exact ⟨rfl, by rw [← HV.out], rfl⟩
                  · have q4 : decide (IC > 0) = true := by have := HIC.out; simp; omega
                    obtain ⟨jc, hjc⟩ : ∃ jc, jc + 1 = ic := ⟨ic - 1, by omega⟩
                    have lx := HCL.out jc (by have := HICL.out; omega)
                    have HV0 := (show F1.zs.getD jc 0 = nthZ F1.zs ic by rw [nthZ, if_neg hic0, show ic - 1 = jc by omega])
                    obtain ⟨Y, hY⟩ : ∃ Y, F1.zs.getD jc 0 = Y := ⟨_, rfl⟩
                    rw [hY] at lx HV0
                    have HV := hide HV0
                    clear hY HV0
                    have s1' : IC - 1 = (jc : Int) := by have := HIC.out; omega
                    have s2 : (0 : Int) ≤ (jc : Int) := by omega
                    have s3 : (jc : Int) < (M : Int) := by have := HICL.out; omega
                    have s4 : jc < M := by have := HICL.out; omega
                    have hj60 : jc ≤ 60 := by have := HICL.out; have := HM60.out; omega
                    have s1 : wrap64 (IC - 1) = (jc : Int) := by have := (wr_pred hjc hj60).1; rwa [HIC.out] at this
                    have s1'' := (wr_pred hjc hj60).2
                    have HJ := hide hjc
                    clear hjc
                    go_wp2_with fail
                    go_meet
                    case rel => exact ⟨rfl, by rw [← HV.out], rfl⟩
                case rest =>
                  obtain ⟨rfl, rfl, rfl⟩ := hcut
                  obtain ⟨TO, hTO⟩ : ∃ TO, nthZ F1.zs ic = TO := ⟨_, rfl⟩
                  have HTO := hide hTO
                  rw [hTO] at HXT ⊢
                  clear hTO
                  obtain ⟨FK, hFK⟩ : ∃ FK, F1.lns (ts.take k2) = FK := ⟨_, rfl⟩
                  have HFK := hide hFK
                  rw [hFK] at HLQ HXT
                  have hob := HLQ.out.bd.wf.at_ HXT.out.1
                  obtain ⟨O, hO⟩ : ∃ O, FK.ob X = O := ⟨_, rfl⟩
                  rw [hO] at hob
                  have HO := hide hO
                  have hrt := HLQ.out.lo.st.rt
                  obtain ⟨R, hR⟩ : ∃ R, O.rs.length = R := ⟨_, rfl⟩
                  have HR := hide hR
                  obtain ⟨RI, hRI⟩ : ∃ RI : Int, (R : Int) = RI := ⟨_, rfl⟩
                  have HRI := hide hRI
                  have hR30 : R ≤ 30 := by
                    have := (hob.ok.bd hrt).2.1
                    unfold Ob.sz at this
                    omega
                  have hoo := hob.ob hrt
                  have hx64 : X ≤ 9223372036854775807 := by have := hob.a64 HLQ.out.lo.st.n; omega
                  have HSP := hide (L6.oshape_is (R := RI) (D := (O.ds.length : Int)) HLQ.out.lo.st hx64 (by rw [hoo.1]; show (O.rs.length : Int) = RI; rw [hR, hRI]) (by rw [hoo.1]; rfl) hoo.2)
                  have HOB := hide hob
                  have HTK := hide (show F1.lns (ts.take (k2 + 1)) = FK.ln ⟨ta2, tb2, tc2⟩ by
                    rw [List.take_add_one, HI.out.2.2.2, ← hFK]
                    simp [Fx.lns, List.foldl_append])
                  have hzs : FK.zs = F1.zs := by rw [← hFK]; exact lns_zs _ _
                  have HLN := hide (show FK.ln ⟨ta2, tb2, tc2⟩ = if R = 0 then FK else FK.setr X (tb2.toNat % R) TO by
                    unfold Fx.ln Fx.lnk
                    rw [hzs, HM.out, if_neg hM0]
                    dsimp only
                    rw [HI.out.1, HI.out.2.1, HI.out.2.2.1, hO, hR, HTO.out])
                  have l2 : wc.cell? ⟨p, 2, none⟩ = some (.pointer (some ⟨b, 0, none⟩)) := HLQ.out.bl.cell 2
                  have l3 : wc.cell? ⟨p, 3, none⟩ = some (.pointer (some ⟨tg, 0, none⟩)) := HLQ.out.bl.cell 3
                  have HWK : Hid (IntKind.i64.wrap ((k2 : Int) + 1) = ((k2 + 1 : Nat) : Int)) := hide ((IntWalk.i64_in _ (by have := HL.out; omega)).trans (by omega))
                  clear hFK hO hR hRI hob hoo hzs l17 HICL HIC
                  go_wp2_with fail
                  refine HSP.out.mono ?_
                  rintro e w3 ⟨rfl, c3⟩
                  have HL3 := hide (HLQ.out.grow c3)
                  have HC3 := hide (HCQ.out.trans (c3.mono (S := (fun i => i = g ∨ i = p ∨ yl ≤ i)) fun _ _ h => h.elim))
                  replace l2 := c3.cell l2
                  replace l3 := c3.cell l3
                  replace k2' := c3.cell k2'
                  replace x1 := c3.cell x1
                  clear c3 HSP HLQ HCQ HCL
                  by_cases hR0 : R = 0
                  · have q4 : decide (RI > 0) = false := dec_no HRI.out hR0
                    have HE := hide (show F1.lns (ts.take (k2 + 1)) = FK by rw [HTK.out, HLN.out, if_pos hR0])
                    clear hR0
                    have hwk := HWK.out
                    go_wp2_with fail
                    go_roundw
                    case rel => exact ⟨k2 + 1, _, q2, rfl, by rw [HE.out]; exact HL3.out, HC3.out⟩
                    case measure => clear hwk; simp [intOf]; exact sub_lt q2
                  · have q4 : decide (RI > 0) = true := dec_yes HRI.out hR0
                    obtain ⟨ib, hib⟩ : ∃ ib, tb2.toNat % R = ib := ⟨_, rfl⟩
                    have hibl : ib < R := by rw [← hib]; exact Nat.mod_lt _ (by omega)
                    have r3 : tb2 % RI = (ib : Int) := by rw [← HRI.out, rem_nat' HB3.out.2.1.1 (by omega), hib]
                    have R3 := hide (And.intro r3 (show tb2.tmod RI = (ib : Int) by rw [Int.tmod_eq_emod_of_nonneg HB3.out.2.1.1]; exact r3))
                    clear r3
                    have HE := hide (show F1.lns (ts.take (k2 + 1)) = FK.setr X ib TO by rw [HTK.out, HLN.out, if_neg hR0, hib])
                    have hsl := HOB.out.slR hrt (k := ib) (by rw [HR.out]; exact hibl)
                    have HSR := hide (fun W (c' : Grow w3 W) => show Calls Tryz.prog 33 #[stV (some ⟨b, 0, none⟩) (some ⟨tg, 0, none⟩), .int .i64 X, .int .i64 (ib : Int), .int .i64 TO] W fun e w' => e = .returned (.int .i64 0) ∧ St w' (some ⟨b, 0, none⟩) (some ⟨tg, 0, none⟩) g (xs2.set (X.toNat + (2 + ib)) TO) FK.cs ∧ Chg (· = g) W w' from by
                      have := L6.setref_in (u := TO) (HL3.out.lo.st.grow c') hx64 hsl.1 hsl.2.1
                      rwa [show (X + 2 + (ib : Int)).toNat = X.toNat + (2 + ib) by have := HOB.out.a1; omega] at this)
                    have hgp : p ≠ g := (HL3.out.lo.st.open_.2.ne_ HL3.out.bl (by decide)).symm
                    have HBD := hide (HL3.out.bd.setr (r := TO) HXT.out.1 (k := ib) (by rw [HO.out, HR.out]; exact hibl) HXT.out.2)
                    have s1 : RI ≠ 0 := by have := HRI.out; omega
                    have s0 : (0 : Int) ≤ tb2 := HB3.out.2.1.1
                    have S3 : Hid (IntKind.i64.wrap tb2 = tb2) := hide (IntWalk.i64_in _ (by have := HB3.out; omega))
                    have hk0 := hide (show w3.cell? ⟨p, 2, none⟩ = some (.pointer (some ⟨b, 0, none⟩)) ∧ w3.cell? ⟨p, 3, none⟩ = some (.pointer (some ⟨tg, 0, none⟩)) ∧ w3.cell? ⟨bw, 2, none⟩ = some (.slice (some ⟨tb', to', none⟩) rl rc) ∧ w3.cell? ⟨tb', to' + k2 * 3 + 1, none⟩ = some (.int .u8 tb2) from ⟨l2, l3, k2', x1⟩)
                    have hk1 := hide (show w3.drew.cell? ⟨p, 2, none⟩ = some (.pointer (some ⟨b, 0, none⟩)) ∧ w3.drew.cell? ⟨p, 3, none⟩ = some (.pointer (some ⟨tg, 0, none⟩)) ∧ w3.drew.cell? ⟨bw, 2, none⟩ = some (.slice (some ⟨tb', to', none⟩) rl rc) ∧ w3.drew.cell? ⟨tb', to' + k2 * 3 + 1, none⟩ = some (.int .u8 tb2) from ⟨l2, l3, k2', x1⟩)
                    have HNG := hide (show bw ≠ g ∧ tb' ≠ g from by
                      have hz := HZ.out
                      have h1 := HTB.out
                      exact ⟨by omega, by omega⟩)
                    have HKG := hide (fun W (c' : Chg (· = g) w3 W) => show W.cell? ⟨p, 2, none⟩ = some (.pointer (some ⟨b, 0, none⟩)) ∧ W.cell? ⟨p, 3, none⟩ = some (.pointer (some ⟨tg, 0, none⟩)) ∧ W.cell? ⟨bw, 2, none⟩ = some (.slice (some ⟨tb', to', none⟩) rl rc) ∧ W.cell? ⟨tb', to' + k2 * 3 + 1, none⟩ = some (.int .u8 tb2) from ⟨c'.cell l2 hgp, c'.cell l3 hgp, c'.cell k2' HNG.out.1, c'.cell x1 HNG.out.2⟩)
                    clear hR0 hib hibl hsl
                    have s3 := S3.out
                    obtain ⟨r3, r3'⟩ := R3.out
                    go_wp2_with fail
                    go_region_held3 (fun W => W.cell? ⟨p, 2, none⟩ = some (.pointer (some ⟨b, 0, none⟩)) ∧ W.cell? ⟨p, 3, none⟩ = some (.pointer (some ⟨tg, 0, none⟩)) ∧ W.cell? ⟨bw, 2, none⟩ = some (.slice (some ⟨tb', to', none⟩) rl rc) ∧ W.cell? ⟨tb', to' + k2 * 3 + 1, none⟩ = some (.int .u8 tb2))
                      (first | with_reducible exact hk0.out | with_reducible exact hk1.out | with_reducible exact hk2.out)
                      (first
                        | (go_at_call 33; (with_reducible refine (HSR.out _ (Chg.drew (Chg.refl _ _))).mono ?_); rintro e w8 ⟨rfl, hs8, c8⟩; (have hk2 := hide (HKG.out w8 (Chg.trans (Chg.drew (Chg.refl _ _)) c8))))
                        | fail)
                    have c8' : Chg (· = g) w3 w8 := Chg.trans (Chg.drew (Chg.refl _ _)) c8
                    have HL8 := hide (show Lf w8 z yl b (some ⟨tg, 0, none⟩) g p ca cl cc (.slice (some ⟨ag, 0, none⟩) M ac) (.slice none 0 0) pc (FK.setr X ib TO) (xs2.set (X.toNat + (2 + ib)) TO) [] h from ⟨HL3.out.lo.put hs8 c8', HL3.out.bl.chg c8' hgp, HBD.out, HL3.out.ol.chg c8' (fun i e hh => by have h1 := (HL3.out.ol.lt i e).1; have h2 := HZ.out; omega), HL3.out.rl.chg c8' (fun i e hh => by cases e), HL3.out.ap, HL3.out.zw.1, Nat.le_trans HL3.out.zw.2 c8'.size⟩)
                    have HC8 := hide (HC3.out.trans (c8'.mono (S := (fun i => i = g ∨ i = p ∨ yl ≤ i)) fun i _ e => .inl e))
                    clear c8 c8' hs8 r3 r3' s0 s1 s3 l2 l3 k2' x1
                    have hwk := HWK.out
                    go_wp2_with fail
                    go_roundw
                    case rel => exact ⟨k2 + 1, _, q2, rfl, by rw [HE.out]; exact HL8.out, HC8.out⟩
                    case measure => clear hwk; simp [intOf]; exact sub_lt q2
        case rest =>
          obtain ⟨xs2, hlf, cc1⟩ := hcut
          obtain ⟨F2, hF2⟩ : ∃ F2, F1.lns ts = F2 := ⟨_, rfl⟩
          have HF2 := hide hF2
          rw [hF2] at hlf
          have HZS2 := hide (show F2.zs = F1.zs by rw [← hF2]; exact lns_zs _ _)
          have HLF := hide hlf
          have HC1 := hide cc1
          obtain ⟨k1, k2, k3⟩ := HBW.out _ cc1
          clear hlf cc1 hF2 k1 k2
          go_wp2_with fail
          clear k3
          go_loopw [190] (fun v wr => ∃ (k3 : Nat) (rv : Value), k3 ≤ zl ∧ v = .int .i64 k3 ∧ Lf wr z yl b (some ⟨tg, 0, none⟩) g p ca cl cc (.slice aa M ac) rv pc F2 xs2 ((zs.take k3).map (rtZ F1.zs)) h ∧ Chg (fun i => i = g ∨ i = p ∨ yl ≤ i) w11 wr) (fun v _ => zl - (intOf v).toNat)
          case atStart => exact ⟨0, _, Nat.zero_le _, rfl, HLF.out, HC1.out⟩
          case round =>
            clear HLF HC1
            obtain ⟨k3, rv, hk, rfl, hlf, cc1⟩ := hrel
            have hwo := HWO.out _ cc1
            obtain ⟨k1, k2', kz⟩ := HBW.out _ cc1
            have hgl : zs.length = zl := hwo.z.1
            rcases Nat.eq_or_lt_of_le hk with hke | hlt
            · have q1 : decide ((k3 : Int) < zl) = false := decide_eq_false (by omega)
              subst hke
              rw [List.take_of_length_le (by omega)] at hlf
              have HLF := hide hlf
              have HC1 := hide cc1
              clear hlf cc1 hwo hk
              have l17 : wr.cell? ⟨p, 17, none⟩ = some (.slice aa M ac) := HLF.out.bl.cell 17
              obtain ⟨PB, hPB⟩ : ∃ PB : Int → Bool, (fun x => oldB x && lldB (F2.ob x)) = PB := ⟨_, rfl⟩
              have HPB := hide hPB
              clear hPB
              go_wp2_with fail
              clear l17 k1 k2' kz q1
              go_loopw [220] (fun v wq => ∃ k4 : Nat, k4 ≤ M ∧ v = .int .i64 k4 ∧ Lf wq z yl b (some ⟨tg, 0, none⟩) g p ca cl cc (.slice aa M ac) rv pc F2 xs2 (zs.map (rtZ F1.zs)) h ∧ Ct wq pc mc gc 1 401 (tS PB 1 401 (F1.zs.take k4) no) ∧ Chg (fun i => i = gc) wr wq) (fun v _ => M - (intOf v).toNat)
              case atStart => exact ⟨0, Nat.zero_le _, rfl, HLF.out, HCT.out _ HC1.out, Chg.refl _ _⟩
              case round =>
                clear HLF
                obtain ⟨k4, hk, rfl, hlf, hct, cc4⟩ := hrel
                rcases Nat.eq_or_lt_of_le hk with hke | hlt
                · as_aux_lemma =>
                  have q1 : decide ((k4 : Int) < M) = false := decide_eq_false (by omega)
                  replace hke := hke.symm
                  subst hke
                  rw [List.take_of_length_le (by rw [HM.out]; exact Nat.le_refl _)] at hct
                  have hz := HZ.out
                  have hrgc : ¬ r = gc := by omega
                  have hrb := (HRB.out _ HC1.out).chg cc4 hrgc
                  have hgw : Grow w wr := (HGR.out _ HC1.out).step cc4 (fun i hi e => by have e' : i = gc := e; omega)
                  obtain ⟨RL, hRL⟩ : ∃ RL, (zs.map (rtZ F1.zs)).length = RL := ⟨_, rfl⟩
                  obtain ⟨ra3, rc3, hrv⟩ := own_len hlf.rl
                  rw [hRL] at hrv
                  subst hrv
                  obtain ⟨CL, hCL⟩ : ∃ CL, lfCs b (some ⟨tg, 0, none⟩) F2.y (.slice aa M ac) (.slice ra3 RL rc3) pc (.slice ca cl cc) = CL := ⟨_, rfl⟩
                  have hbp := hlf.bl
                  rw [hCL] at hbp
                  have h21 : (Tryz.prog.info? 40).map (·.size) = some CL.length := by rw [← hCL]; exact life_sz
                  have hone : CL.toArray.all (·.oneCell') = true := by rw [← hCL]; exact life_one b (some ⟨tg, 0, none⟩) (some ⟨b, 0, none⟩) (some ⟨tg, 0, none⟩) F2.y aa M ac ra3 RL rc3 pc ca cl cc
                  have hln : lf0.length = CL.length := by rw [← hCL]; rfl
                  have cR : Chg (· = r) wr (wr.setRow r CL.toArray) := chg_setRow _ _
                  have hfr : w.heap.size ≤ r := HFR.out
                  have HMD := hide (show Mde w (wr.setRow r CL.toArray) { F2 with zs := zs.map (rtZ F1.zs) } F1.zs xs2 h z yl b (some ⟨tg, 0, none⟩) g pc mc gc (.slice aa M ac) (.slice ra3 RL rc3) from by
                    have e0 : F2.zs = F1.zs := HZS2.out
                    refine ⟨hlf.lo.life hrb cR, ?_, ?_, ?_, hlf.ap, ?_, ?_, ?_, ?_⟩
                    · rw [← e0]; exact hlf.bd
                    · rw [← e0]; exact hlf.ol.chg cR (fun i e hh => by have h1 := (hlf.ol.lt i e).1; have h2 : i = r := hh; omega)
                    · exact hlf.rl.chg cR (fun i e hh => by have h1 := (hlf.rl.lt i e).1; have h2 : i = r := hh; omega)
                    · have hc2 := hct.chg cR (show ¬ pc = r by omega) (show ¬ mc = r by omega) (show ¬ gc = r by omega)
                      rw [← HPB.out] at hc2
                      exact hc2
                    · have h1 := cR.size
                      have h2 := hlf.zw
                      exact ⟨⟨by omega, by omega, by omega⟩, ⟨by omega, by omega, by omega⟩, by omega, by omega, by omega, by omega⟩
                    · exact hgw.step cR (fun i hi e => by have e' : i = r := e; omega)
                    · intro q hq
                      obtain ⟨t, -, rfl⟩ := List.mem_map.1 hq
                      exact rtZ_in (f := F2) (fun x => by rw [← e0]; exact hlf.bd.zi x) t)
                  have HR := hide (blk_row hrb CL)
                  have HR0 := hide hrb
                  have HB := hide hbp
                  have H21 := hide h21
                  have HONE := hide hone
                  have HLN := hide hln
                  have HCL := hide hCL
                  clear hz hrgc hrb hgw hRL hCL hbp h21 hone hln cR hfr hlf hct cc4 hk
                  go_upto_region 43 with fail
                  clear q1
                  refine wp_region_list ?_
                  refine wpList_load_row rfl 40 _ rfl p (by rfl) 40 CL.toArray (0, 0) _ HB.out Tryz.underlying40 rfl H21.out ?_
                  refine wpList_store_row rfl 40 _ _ rfl r CL.toArray (by rfl) (by rfl) 40 lf0.toArray HR0.out H21.out HLN.out HONE.out ?_
                  clear HR0 HB HONE HLN
                  generalize wr.setRow r CL.toArray = w7 at *
                  go_step
                  go_step
                  go_step
                  go_step
                  rename_i hKK
                  refine hKK _ _ ?_
                  refine wp_ret ?_
                  refine bodyPost_ret (v := .tuple #[.agg CL.toArray, .bool true]) (results_row2 (by first | rfl | kernel_rfl) _ _ r 40 CL _ _ (by rfl) (by rfl) HR.out Tryz.underlying40 rfl H21.out) rfl ?_
                  have e0 : fin0 cs (hf % 101) (th % 8) gs ts = F2 := by
                    unfold fin0
                    rw [HH.out.1, HT8.out, HF0.out, HF1.out, HF2.out]
                  have e1 : finF cs (hf % 101) (th % 8) gs ts zs = { F2 with zs := zs.map (rtZ F1.zs) } := by
                    unfold finF
                    rw [e0, HZS2.out]
                  refine ⟨xs2, z, yl, b, some ⟨tg, 0, none⟩, g, pc, mc, gc, .slice aa M ac, .slice ra3 RL rc3, ?_, ?_⟩
                  · rw [e1, HCL.out]
                  · rw [e1, e0, HZS2.out, HH.out.1]
                    exact HMD.out
                · as_aux_lemma =>
                  have q1 : decide ((k4 : Int) < M) = true := decide_eq_true (by omega)
                  have q2 : k4 < M := hlt
                  obtain ⟨ag, hae, lx⟩ := ol_at hlf.ol HZS2.out HM.out hlt
                  obtain ⟨hXin, hob⟩ := lf_in hlf.bd HZS2.out HM.out hlt
                  have htk := tS_next (p := PB) (f := 1) (t := 401) (S := no) HM.out hlt
                  obtain ⟨X, hX⟩ : ∃ X, F1.zs.getD k4 0 = X := ⟨_, rfl⟩
                  rw [hX] at lx hob htk
                  have HTK := hide htk
                  have HXB := hide (show PB X = (oldB X && lldB (F2.ob X)) by rw [← HPB.out])
                  have HOB := hide hob
                  have HLF := hide hlf
                  have HC4 := hide cc4
                  have HCT4 := hide hct
                  obtain ⟨-, -, -, -, l17, -, l19, -⟩ := lf_cells hlf.bl
                  have s5 : (0 : Int) ≤ (k4 : Int) := by omega
                  have s6 : (k4 : Int) < (M : Int) := by omega
                  have HWK : Hid (IntKind.i64.wrap ((k4 : Int) + 1) = ((k4 + 1 : Nat) : Int)) := hide ((IntWalk.i64_in _ (by have := HM60.out; omega)).trans (by omega))
                  clear hlf cc4 hct hk hlt hXin hX hob htk
                  subst hae
                  go_wp2_with fail
                  refine (lold_any _ _).mono ?_
                  rintro e w3 ⟨rfl, rfl⟩
                  obtain ⟨B1, hB1⟩ : ∃ B1, oldB X = B1 := ⟨_, rfl⟩
                  rw [hB1]
                  have HB1 := hide hB1
                  clear hB1
                  cases B1 with
                  | false =>
                    have HE := hide (show tS PB 1 401 (F1.zs.take (k4 + 1)) no = tS PB 1 401 (F1.zs.take k4) no by rw [HTK.out, if_neg (by rw [HXB.out, HB1.out]; simp)])
                    have hwk := HWK.out
                    go_wp2_with fail
                    go_roundw
                    case rel => exact ⟨k4 + 1, q2, rfl, HLF.out, by rw [HE.out]; exact HCT4.out, HC4.out⟩
                    case measure => clear hwk; simp [intOf]; exact sub_lt q2
                  | true =>
                    go_wp2_with fail
                    refine (lleads_any HLF.out.lo.st HLF.out.bl HOB.out).mono ?_
                    rintro e w4 ⟨rfl, c4⟩
                    have HL4 := hide (HLF.out.grow c4)
                    have HC5 := hide (HC4.out.trans (c4.mono (S := (fun i => i = gc)) fun _ _ h => h.elim))
                    have HCT5 := hide (HCT4.out.grow c4)
                    replace l17 := c4.cell l17
                    replace l19 := c4.cell l19
                    replace lx := c4.cell lx
                    clear c4 HLF HC4 HCT4
                    obtain ⟨B2, hB2⟩ : ∃ B2, lldB (F2.ob X) = B2 := ⟨_, rfl⟩
                    rw [hB2]
                    have HB2 := hide hB2
                    clear hB2
                    cases B2 with
                    | false =>
                      have HE := hide (show tS PB 1 401 (F1.zs.take (k4 + 1)) no = tS PB 1 401 (F1.zs.take k4) no by rw [HTK.out, if_neg (by rw [HXB.out, HB1.out, HB2.out]; simp)])
                      have hwk := HWK.out
                      go_wp2_with fail
                      go_roundw
                      case rel => exact ⟨k4 + 1, q2, rfl, HL4.out, by rw [HE.out]; exact HCT5.out, HC5.out⟩
                      case measure => clear hwk; simp [intOf]; exact sub_lt q2
                    | true =>
                      have HE := hide (show tS PB 1 401 (F1.zs.take (k4 + 1)) no = tset (tS PB 1 401 (F1.zs.take k4) no) 1 401 X by rw [HTK.out, if_pos (by rw [HXB.out, HB1.out, HB2.out]; rfl)])
                      have HNG := hide (show p ≠ gc ∧ ag ≠ gc ∧ z ≤ gc ∧ gc < yl from by
                        have hz := HZ.out
                        have h1 := (HL4.out.ol.lt ag rfl).1
                        exact ⟨by omega, by omega, by omega, by omega⟩)
                      have HTC := hide (fun W (c' : Grow w4 W) => tb_touch (HCT5.out.grow c') X rfl rfl)
                      have hk0 := hide (show w4.cell? ⟨p, 17, none⟩ = some (.slice (some ⟨ag, 0, none⟩) M ac) ∧ w4.cell? ⟨p, 19, none⟩ = some (ptr pc) ∧ w4.cell? ⟨ag, k4, none⟩ = some (.int .i64 X) from ⟨l17, l19, lx⟩)
                      have hk1 := hide (show w4.drew.cell? ⟨p, 17, none⟩ = some (.slice (some ⟨ag, 0, none⟩) M ac) ∧ w4.drew.cell? ⟨p, 19, none⟩ = some (ptr pc) ∧ w4.drew.cell? ⟨ag, k4, none⟩ = some (.int .i64 X) from ⟨l17, l19, lx⟩)
                      have HKG := hide (fun W (c' : Chg (· = gc) w4 W) => show W.cell? ⟨p, 17, none⟩ = some (.slice (some ⟨ag, 0, none⟩) M ac) ∧ W.cell? ⟨p, 19, none⟩ = some (ptr pc) ∧ W.cell? ⟨ag, k4, none⟩ = some (.int .i64 X) from ⟨c'.cell l17 HNG.out.1, c'.cell l19 HNG.out.1, c'.cell lx HNG.out.2.1⟩)
                      go_wp2_with fail
                      go_region_held3 (fun W => W.cell? ⟨p, 17, none⟩ = some (.slice (some ⟨ag, 0, none⟩) M ac) ∧ W.cell? ⟨p, 19, none⟩ = some (ptr pc) ∧ W.cell? ⟨ag, k4, none⟩ = some (.int .i64 X))
                        (first | with_reducible exact hk0.out | with_reducible exact hk1.out | with_reducible exact hk2.out)
                        (first
                          | (go_at_call 9; (with_reducible refine (HTC.out _ (Chg.drew (Chg.refl _ _))).mono ?_); rintro e w8 ⟨rfl, hct8, c8⟩; (have hk2 := hide (HKG.out w8 (Chg.trans (Chg.drew (Chg.refl _ _)) c8))))
                          | fail)
                      have c8' : Chg (· = gc) w4 w8 := Chg.trans (Chg.drew (Chg.refl _ _)) c8
                      have HL8 := hide (HL4.out.card c8' HNG.out.2.2.1 HNG.out.2.2.2 HNG.out.1)
                      have HC8 := hide (HC5.out.trans c8')
                      have HCT8 := hide hct8
                      clear c8 c8' hct8 l17 l19 lx
                      have hwk := HWK.out
                      go_wp2_with fail
                      go_roundw
                      case rel => exact ⟨k4 + 1, q2, rfl, HL8.out, by rw [HE.out]; exact HCT8.out, HC8.out⟩
                      case measure => clear hwk; simp [intOf]; exact sub_lt q2
            · as_aux_lemma =>
              have q1 : decide ((k3 : Int) < zl) = true := decide_eq_true (by omega)
              have q2 : k3 < zl := hlt
              obtain ⟨zad, hza, zc1, zwf⟩ := hwo.z.at_ hlt
              have hza : za = some zad := hza
              have hzb := bounds_u8 zwf
              obtain ⟨tz, htz⟩ : ∃ tz, zs.getD k3 0 = tz := ⟨_, rfl⟩
              rw [htz] at zc1 hzb
              obtain ⟨ic, hic⟩ : ∃ ic, tz.toNat % (M + 1) = ic := ⟨_, rfl⟩
              have hicl : ic < M + 1 := by rw [← hic]; exact Nat.mod_lt _ (by omega)
              have r2 : tz % (((M + 1 : Nat) : Int)) = (ic : Int) := by rw [rem_nat' hzb.1 (by omega), hic]
              obtain ⟨N1, hN1⟩ : ∃ N1 : Int, ((M + 1 : Nat) : Int) = N1 := ⟨_, rfl⟩
              rw [hN1] at r2
              have HTK := hide (show (zs.take (k3 + 1)).map (rtZ F1.zs) = (zs.take k3).map (rtZ F1.zs) ++ [nthZ F1.zs ic] by
                rw [List.take_add_one, List.getElem?_eq_getElem (by omega), List.map_append]
                have e : zs[k3]'(by omega) = tz := by rw [← htz]; simp [List.getD_eq_getElem?_getD, show k3 < zs.length by omega]
                simp only [Option.toList_some, List.map_cons, List.map_nil, e, rtZ, HM.out, hic])
              have HLF := hide hlf
              have HC1 := hide cc1
              have HICL := hide hicl
              have HN1 := hide hN1
              have HZB := hide hzb
              have HWK : Hid (IntKind.i64.wrap ((k3 : Int) + 1) = ((k3 + 1 : Nat) : Int)) := hide ((IntWalk.i64_in _ (by have := HL.out; omega)).trans (by omega))
              have t0 : (0 : Int) ≤ tz := hzb.1
              have t1 : N1 ≠ 0 := by omega
              have t5 : (M : Int) + 1 = N1 := by omega
              have t6 : k3 < zl := hlt
              have T2 := hide (show wrap64 tz = tz ∧ IntKind.i64.wrap tz = tz ∧ wrap64 N1 = N1 from ⟨wrap64_id _ (by omega), IntWalk.i64_in _ (by omega), wrap64_id _ (by have := HM60.out; omega)⟩)
              subst hza
              clear hlf cc1 hwo hk hlt hgl htz hic hicl hN1 hzb k1 k2'
              obtain ⟨t2, t3, t4⟩ := T2.out
              go_upto_if 203 with fail
              rw [r2]
              obtain ⟨IC, hIC⟩ : ∃ IC : Int, (ic : Int) = IC := ⟨_, rfl⟩
              rw [hIC]
              rw [dec_ic hIC]
              have HIC := hide hIC
              obtain ⟨B3, hB3⟩ : ∃ B3 : Bool, decide (IC > 0) = B3 := ⟨_, rfl⟩
              rw [hB3]
              have HB4 := hide hB3
              clear hB3
              clear hIC t0 t1 t2 t3 t4 t5 r2 zc1 kz
              have l17 : wr.cell? ⟨p, 17, none⟩ = some (.slice aa M ac) := HLF.out.bl.cell 17
              go_cut [190, 20] from 190 to 216 (fun i v wx => i = .int .i64 k3 ∧ v = .int .i64 (nthZ F1.zs ic) ∧ wx = wr)
              case first =>
                by_cases hic0 : ic = 0
                · obtain rfl : B3 = false := HB4.out.symm.trans (dec_no HIC.out hic0)
                  have HV := hide (show (0 : Int) = nthZ F1.zs ic by rw [nthZ, if_pos hic0])
                  clear hic0
                  go_wp2_with fail
                  go_meet
                  case rel => exact ⟨rfl, by rw [← HV.out], rfl⟩
                · obtain rfl : B3 = true := HB4.out.symm.trans (dec_yes HIC.out hic0)
                  obtain ⟨jc, hjc⟩ : ∃ jc, jc + 1 = ic := ⟨ic - 1, by omega⟩
                  have hjM : jc < M := by have := HICL.out; omega
                  have hol' : wr.ownsRow yl 3 1 (.slice aa M ac) M (ints F1.zs) := by
                    have := HLF.out.ol
                    rw [HZS2.out] at this
                    have h2 : wr.ownsRow yl 3 1 (.slice aa M ac) F1.zs.length (ints F1.zs) := this
                    rwa [HM.out] at h2
                  obtain ⟨ag, ac2, hae, -, -, -, -, hcell⟩ := own_ints hol' (by omega)
                  replace hae : aa = some ⟨ag, 0, none⟩ := by injection hae
                  have lx := hcell jc hjM
                  have HV0 := (show F1.zs.getD jc 0 = nthZ F1.zs ic by rw [nthZ, if_neg hic0, show ic - 1 = jc by omega])
                  obtain ⟨Y, hY⟩ : ∃ Y, F1.zs.getD jc 0 = Y := ⟨_, rfl⟩
                  rw [hY] at lx HV0
                  have HV := hide HV0
                  have hj60 : jc ≤ 60 := by have := HM60.out; omega
                  have s1' : IC - 1 = (jc : Int) := by have := HIC.out; omega
                  have s2 : (0 : Int) ≤ (jc : Int) := by omega
                  have s3 : (jc : Int) < (M : Int) := by omega
                  have s1 : wrap64 (IC - 1) = (jc : Int) := by have := (wr_pred hjc hj60).1; rwa [HIC.out] at this
                  have s1'' := (wr_pred hjc hj60).2
                  clear hY HV0 hol' hcell hjc hic0 hj60
                  subst hae
                  go_wp2_with fail
                  go_meet
                  case rel => exact ⟨rfl, by rw [← HV.out], rfl⟩
              case rest =>
                obtain ⟨rfl, rfl, rfl⟩ := hcut
                clear l17
                obtain ⟨TO, hTO⟩ : ∃ TO, nthZ F1.zs ic = TO := ⟨_, rfl⟩
                rw [hTO] at HTK ⊢
                clear hTO HICL HIC HN1 HZB
                have hlen : ((zs.take k3).map (rtZ F1.zs)).length = k3 := by rw [List.length_map, List.length_take]; have := (HWO.out _ HC1.out).z.1; have : zs.length = zl := this; omega
                have gl : Grow wc (wc.alloc (.cells #[.int .i64 TO] 3)) := Grow.box wc (.cells #[.int .i64 TO] 3)
                have rl1 : L1.Rd (wc.alloc (.cells #[.int .i64 TO] 3)) (some ⟨wc.heap.size, 0, none⟩) 1 [TO] := own_rd (OL.lit wc [TO] (by simp))
                have hrv := HLF.out.rl
                have hzw := HLF.out.zw
                obtain ⟨v', W', hrr, ho', hgb, hob'⟩ := app_int (c := 1) (hrv.grow gl) (by have := gl.size; omega) rl1 (by rw [hlen]; have := HL.out; omega)
                have hl8 := (HLF.out.bl.chg gl id).grownOwn hgb (fun e => OL.ne (hrv.grow gl) (HLF.out.bl.chg gl id) (by decide) e.symm)
                have c8 : Chg (fun i => rv.ownBlock = some i) wc W' := (Chg.grown (S := fun i => rv.ownBlock = some i) (gl.mono fun _ _ h => h.elim) hgb (fun k _ e => e))
                have c9 : Chg (· = p) W' (W'.setCell ⟨p, 18, none⟩ v') := (Chg.refl _ _).set1 18 _
                have hov1 := HLF.out.ol.chg c8 (fun i e h => HLF.out.ap i e h)
                have HF9 := hide (show Lf (W'.setCell ⟨p, 18, none⟩ v') z yl b (some ⟨tg, 0, none⟩) g p ca cl cc (.slice aa M ac) v' pc F2 xs2 ((zs.take (k3 + 1)).map (rtZ F1.zs)) h ∧ Chg (fun i => i = g ∨ i = p ∨ yl ≤ i) w11 (W'.setCell ⟨p, 18, none⟩ v') from by
                  refine ⟨⟨((HLF.out.lo.chg c8 fun i e => Nat.le_trans hzw.1 (hrv.lt i e).1).life hl8 c9), hl8.set_ 18 v', HLF.out.bd, hov1.chg c9 (fun i e h => OL.ne hov1 hl8 (by decide) (h ▸ e)), ?_, fun i e1 e2 => ?_, hzw.1, ?_⟩, ?_⟩
                  · rw [HTK.out]
                    exact ho'.chg c9 (fun i e h => OL.ne ho' hl8 (by decide) (h ▸ e))
                  · rcases hob' with h | h
                    · exact HLF.out.ap i e1 (by rw [← h, e2])
                    · rw [h] at e2
                      injection e2 with e2
                      have h1 := (HLF.out.ol.lt i e1).2
                      have h2 := gl.size
                      omega
                  · have h1 := c8.size; have h2 := c9.size; omega
                  · exact (HC1.out.trans (c8.mono fun i _ e => .inr (.inr (hrv.lt i e).1))).trans (c9.mono fun i _ e => .inr (.inl e)))
                obtain ⟨ra2, rc2, hrv2⟩ := own_len hrv
                obtain ⟨ra3, rc3, hv3⟩ := own_len ho'
                rw [hlen] at hrv2
                rw [List.length_append, hlen, List.length_singleton] at hv3
                subst hrv2
                subst hv3
                have KA := hide hrr
                have l18 : wc.cell? ⟨p, 18, none⟩ = some (.slice ra2 k3 rc2) := HLF.out.bl.cell 18
                have s4 : W'.cell? ⟨p, 18, none⟩ = some (.slice ra2 k3 rc2) := hl8.cell 18
                have s5 : W'.frozen? ⟨p, 18, none⟩ = false := hl8.frozen 18
                clear hrr ho' hgb hob' hl8 c8 c9 hov1 gl rl1 hrv hzw hlen HLF HC1
                have hwk := HWK.out
                go_wp2_with (at_builtin; refine wpList_app rfl _ _ 37 rfl (.slice ra2 k3 rc2) (.slice (some ⟨wc.heap.size, 0, none⟩) 1 1) (.slice ra3 (k3 + 1) rc3) _ W' rfl rfl KA.out ?_)
                go_roundw
                case rel => exact ⟨k3 + 1, _, t6, rfl, HF9.out.1, HF9.out.2⟩
                case measure => clear hwk; simp [intOf]; exact sub_lt t6
      · as_aux_lemma =>
        have q1 : decide ((k : Int) < tl) = true := decide_eq_true (by omega)
        have q2 : k < tl := hlt
        have hw : IntKind.i64.wrap ((k : Int) + 1) = ((k + 1 : Nat) : Int) := (IntWalk.i64_in _ (by have := HL.out; omega)).trans (by omega)
        obtain ⟨tb', to', t, hta, hgt, htB, x0, x1, x2, x3⟩ := hwo.t.at_ hlt
        have hta : ta = some ⟨tb', to', none⟩ := hta
        have hcs : (F0.lays (gs.take k)).cs = cs := (lays_cs _ _).1.trans HCS0.out
        have hzl : (F0.lays (gs.take k)).zs.length ≤ 1000 := by
          have := lays_len (gs.take k) F0
          rw [HZS0.out] at this
          simp only [List.length_nil, List.length_take] at this
          have := HL.out
          omega
        have HLAY := hide (llay_any (t := t) hlf (by rw [hcs]; exact hwo.c) htB (by rw [hcs, hwo.c.len]; have := HL.out; show 0 < cl; omega) (by rw [hcs, hwo.c.len]; have := HL.out; show cl < 64; omega) hzl)
        have HTK := hide (show F0.lays (gs.take (k + 1)) = (F0.lays (gs.take k)).lay t by
          rw [List.take_add_one, hgt]
          simp [Fx.lays, List.foldl_append])
        have HC1 := hide cc1
        have HO := hide (fun i (e : av.ownBlock = some i) => (hlf.ol.lt i e).1)
        subst hta
        clear hwo hlf cc1 hcs hzl hgt htB hk hlt
        go_wp2_with fail
        refine HLAY.out.mono ?_
        rintro e w2 ⟨rfl, av', xs', hlf', c2⟩
        have HLF' := hide hlf'
        have HC2 := hide (HC1.out.trans (c2.mono (S := (fun i => i = g ∨ i = p ∨ yl ≤ i)) fun i _ e => by
          rcases e with e | e | e
          · exact .inl e
          · exact .inr (.inl e)
          · exact .inr (.inr (HO.out i e))))
        clear hlf' c2 HC1 HLAY HO x0 x1 x2 x3 k1 k2 k3
        go_wp2
        go_roundw
        case rel => exact ⟨k + 1, av', xs', q2, rfl, by rw [HTK.out]; exact HLF'.out, HC2.out⟩
        case measure => simp [intOf]; omega
end
end Go.Proofs.YtogfjclmohpjkaaGreatDoor.L15
