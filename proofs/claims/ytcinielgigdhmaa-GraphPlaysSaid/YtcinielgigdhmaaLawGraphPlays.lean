/- For all classes and calls GraphPlays answers true: whatever is added, changed, and kept, each answer is the plain graph's, and so are all nodes. Conditions: none. -/
import Derived.Test.YtcinielgigdhmaaL9SameG
import Derived.Test.YtcinielgigdhmaaL9Start
import Derived.Test.YtcinielgigdhmaaL9KeepsP
import Derived.Deep.RegionHeld3
namespace Go.Proofs.Ytcinielgigdhmaa.graphPlays
open Go.ChangeShapes Go.WideShapes Go.ChangeAt Go.RowKit Go.Proofs.Ytcinielgigdhmaa.L9
open Go.Proofs.Ytcinielgigdhmaa.L5 (Cl clAt IsCls newX)
open Go.Proofs.Ytcinielgigdhmaa.graphKeeps (kp_len)
set_option linter.unusedVariables false
theorem rg_new {w : World} {q : Nat} {cv : Value} {z : Nat} (h : Blk w q 36 [cv, .slice none 0 0]) (hz : z ≤ q) : RG w z (· = q) q cv [] :=
  ⟨.slice none 0 0, fun _ => 0, fun _ => 0, fun _ => 0, h, World.ownsRow_nil _ _ _ _, (fun k hk => by cases hk), rfl, rfl, (fun k hk => by subst hk; exact ⟨hz, h.lt⟩), (fun x hx => by cases hx)⟩
theorem keepB {S : Nat → Prop} {wo W : World} {p : Addr} {v : Value} (h : wo.cell? p = some v) (hn : ¬ S p.block) (c : Chg S wo.drew W) : W.cell? p = some v := Chg.cell (w := wo.drew) c h hn
section
variable {w : World} {a a1 : Option Addr} {len cap len1 cap1 : Nat} {cs : List Cl} {l : List Oq}
set_option maxRecDepth 100000 in
set_option maxHeartbeats 2000000 in
theorem walk_no (hc : IsCls w a len cap cs) (ho : IsOps w a1 len1 cap1 l) (hn : ¬ (fewB l = true ∧ len ≤ 100 ∧ newX cs = 0)) :
    Calls Try.prog 3 #[.slice a len cap, .slice a1 len1 cap1] w fun e w' => e = .returned (.bool true) ∧ Below w.heap.size w w' := by
  cases hfl : fewB l with
  | false =>
    have HFL := hide hfl
    clear hn
    have HCL := hide hc
    have HOPS := hide ho
    have cc := Chg.refl (fun _ => False) w
    clear hc ho
    go_enter Try.func3, Try.ntmps3
    go_wp2_with fail
    refine (awake_any _).mono ?_
    rintro e w1 ⟨rfl, c1⟩
    replace cc := cc.trans c1
    clear c1
    go_wp2_with fail
    refine (few_any (HOPS.out.chg cc fun _ _ => id)).mono ?_
    rintro e w' ⟨rfl, rfl⟩
    rw [HFL.out]
    go_wp2_with fail
    refine (awake_any _).mono ?_
    rintro e w9 ⟨rfl, c9⟩
    go_wp2
    go_ret
    exact ⟨rfl, (cc.trans c9).below (fun _ _ h => h) (Nat.le_refl _)⟩
  | true =>
    have HFL := hide hfl
    by_cases hl : 100 < len
    · have q1 : decide ((len : Int) > 100) = true := by simp; omega
      clear hn
      have HCL := hide hc
      have HOPS := hide ho
      have cc := Chg.refl (fun _ => False) w
      clear hc ho
      go_enter Try.func3, Try.ntmps3
      go_wp2_with fail
      refine (awake_any _).mono ?_
      rintro e w1 ⟨rfl, c1⟩
      replace cc := cc.trans c1
      clear c1
      go_wp2_with fail
      refine (few_any (HOPS.out.chg cc fun _ _ => id)).mono ?_
      rintro e w' ⟨rfl, rfl⟩
      rw [HFL.out]
      go_wp2_with fail
      refine (awake_any _).mono ?_
      rintro e w9 ⟨rfl, c9⟩
      go_wp2
      go_ret
      exact ⟨rfl, (cc.trans c9).below (fun _ _ h => h) (Nat.le_refl _)⟩
    · have q1 : decide ((len : Int) > 100) = false := by simp; omega
      replace hl : len ≤ 100 := by omega
      obtain ⟨X, hX⟩ : ∃ X, newX cs = X := ⟨_, rfl⟩
      have hX0 : X ≠ 0 := fun e => hn ⟨hfl, hl, by rw [hX, e]⟩
      have q2 : (X != 0) = true := by simpa using hX0
      have HNX := hide hX
      clear hn hX hX0
      have HCL := hide hc
      have HOPS := hide ho
      have cc := Chg.refl (fun _ => False) w
      clear hc ho
      go_enter Try.func3, Try.ntmps3
      go_wp2_with fail
      refine (awake_any _).mono ?_
      rintro e w1 ⟨rfl, c1⟩
      replace cc := cc.trans c1
      clear c1
      go_wp2_with fail
      refine (few_any (HOPS.out.chg cc fun _ _ => id)).mono ?_
      rintro e w' ⟨rfl, rfl⟩
      rw [HFL.out]
      go_wp2_with fail
      refine (L5.rnew_any _ _ _ _ _ (HCL.out.chg cc fun _ _ => id) hl).mono ?_
      rintro e w3 ⟨rfl, c3⟩
      rw [HNX.out]
      replace cc := cc.trans c3
      
      go_wp2_with fail
      refine (awake_any _).mono ?_
      rintro e w9 ⟨rfl, c9⟩
      go_wp2
      go_ret
      exact ⟨rfl, (cc.trans c9).below (fun _ _ h => h) (Nat.le_refl _)⟩
/-- What stands between two calls. -/
structure Inv (w0 w : World) (z p q : Nat) (cv : Value) (cs : List Cl) (n : Nat) (L : List Nd) : Prop where
  bo : Bo w z p q cv cs L
  n : L.length ≤ n
  cz : Chg (fun j => z ≤ j) w0 w
theorem Inv.grow {w0 w w' : World} {z p q : Nat} {cv : Value} {cs : List Cl} {n : Nat} {L : List Nd} (h : Inv w0 w z p q cv cs n L) (g : Grow w w') : Inv w0 w' z p q cv cs n L := ⟨h.bo.grow g, h.n, h.cz.step g fun _ _ h => h.elim⟩
set_option maxRecDepth 100000 in
set_option maxHeartbeats 8000000 in
theorem walk_main (hc : IsCls w a len cap cs) (ho : IsOps w a1 len1 cap1 l) (hfl : fewB l = true) (hl : len ≤ 100) (hX : newX cs = 0) :
    Calls Try.prog 3 #[.slice a len cap, .slice a1 len1 cap1] w fun e w' => e = .returned (.bool true) ∧ Below w.heap.size w w' := by
  have HFL := hide hfl
  have HNX := hide hX
  have HALL := hide (newX_rt hX).1
  have q1 : decide ((len : Int) > 100) = false := by simp; omega
  have HLEN := hide hl
  clear hfl hX
  have HCL := hide hc
  have HOPS := hide ho
  have cc := Chg.refl (fun _ => False) w
  clear hc ho
  go_enter Try.func3, Try.ntmps3
  go_wp2_with fail
  refine (awake_any _).mono ?_
  rintro e w1 ⟨rfl, c1⟩
  replace cc := cc.trans c1
  clear c1
  go_wp2_with fail
  refine (few_any (HOPS.out.chg cc fun _ _ => id)).mono ?_
  rintro e w' ⟨rfl, rfl⟩
  rw [HFL.out]
  go_wp2_with fail
  refine (L5.rnew_any _ _ _ _ _ (HCL.out.chg cc fun _ _ => id) hl).mono ?_
  rintro e w3 ⟨rfl, c3⟩
  rw [HNX.out]
  replace cc := cc.trans c3
  
  clear c3
  go_wp2_with fail
  refine (new_tz (HCL.out.chg cc fun _ _ => id) hl HNX.out).mono ?_
  rintro e w4 ⟨tb, rfl, ht, c4⟩
  obtain ⟨z, hz⟩ : ∃ z, w4.heap.size = z := ⟨_, rfl⟩
  rw [hz] at ht
  have HZ := hide (And.intro (show w.heap.size ≤ z by rw [← hz]; exact Nat.le_trans cc.size c4.size) (Nat.le_of_eq hz.symm))
  have cz : Chg (fun k => w.heap.size ≤ k) w w4 := (cc.trans c4).mono fun _ _ h => h.elim
  clear cc
  clear c4 hz q1
  go_wp2_with fail
  refine (new_gr ht HZ.out.2).mono ?_
  rintro e w5 ⟨p, S, rfl, c5, hg, hs⟩
  replace cz := (cz.step c5 fun _ _ h => h.elim).alloc (.cells #[.slice a len cap, .slice none 0 0] 36)
  have hb := Blk.new w5 36 [.slice a len cap, .slice none 0 0]
  have hzq : z ≤ w5.heap.size := Nat.le_trans HZ.out.2 c5.size
  have hsq : ∀ k, S k → ¬ k = w5.heap.size := fun k hk e => by have := (hg.s hk).2; omega
  replace hg := hg.grow (Grow.box w5 (.cells #[.slice a len cap, .slice none 0 0] 36))
  clear c5 hs ht
  go_wp2_with fail
  generalize w5.alloc (.cells #[.slice a len cap, .slice none 0 0] 36) = w6 at *
  generalize w5.heap.size = q at *
  have hiv : Inv w w6 z p q (.slice a len cap) cs 0 [] := ⟨⟨S, (· = q), hg, rg_new hb hzq, hsq⟩, Nat.le_refl _, cz.mono fun i hi h => by have := HZ.out; omega⟩
  clear hg hzq hsq hb cz
  have HLN := hide (And.intro HOPS.out.1 (fewB_ll HFL.out))
  go_loopw [45] (fun c wr => ∃ (k : Nat) (L : List Nd), k ≤ len1 ∧ c = .int .i64 k ∧ Inv w wr z p q (.slice a len cap) cs k L) (fun c _ => len1 - (Go.RowKit.intOf c).toNat)
  case atStart => exact ⟨0, [], Nat.zero_le _, rfl, hiv⟩
  case round =>
    clear hiv
    obtain ⟨k, L, hk, rfl, hiv⟩ := hrel
    rcases Nat.eq_or_lt_of_le hk with rfl | hlt
    · as_aux_lemma =>
      have q1 : decide ((k : Int) < k) = false := by simp
      obtain ⟨S0, T, hg, hr, -⟩ := hiv.bo
      have hL : L.length < 1000000 := by have := HLN.out; have := hiv.n; omega
      have HI2 := hide (ids_r hr hL)
      obtain ⟨n, hn⟩ : ∃ n, L.length = n := ⟨_, rfl⟩
      rw [hn] at HI2
      have HN := hide hn
      have HL := hide hL
      have HG := hide hg
      have HR := hide hr
      have HIV := hide hiv
      have HSAME := hide (fun (W : World) (g : Grow wr W) (i : Int) (hi : In64 i) => same_g (hg.grow g) (hr.grow g) (HCL.out.chg (HIV.out.cz.step g fun _ _ h => h.elim) fun i hi h => by have := HZ.out.1; omega) HALL.out hL (by have := HLEN.out; omega) hi)
      clear hk hg hr hL hn hiv
      go_wp2_with fail
      refine HI2.out.mono ?_
      rintro e w7 ⟨ia, ic, rfl, hrow, c7⟩
      have HROW := hide hrow
      have HC7 := hide c7
      clear hrow c7 HI2
      go_wp2_with fail
      go_loopw [175] (fun c wq => ∃ j : Nat, j ≤ n ∧ c = .int .i64 j ∧ Grow w7 wq) (fun c _ => n - (Go.RowKit.intOf c).toNat)
      case atStart => exact ⟨0, Nat.zero_le _, rfl, Chg.refl _ _⟩
      case round =>
        obtain ⟨j, hj, rfl, gg⟩ := hrel
        rcases Nat.eq_or_lt_of_le hj with rfl | hlt
        · have q2 : decide ((j : Int) < j) = false := by simp
          have HGG := hide gg
          clear gg hj
          go_wp2
          go_ret
          exact ⟨rfl, ((HIV.out.cz.step (HC7.out.trans HGG.out) fun _ _ h => h.elim)).below (fun i hi h => by have := HZ.out.1; omega) (Nat.le_refl _)⟩
        · have q2 : decide ((j : Int) < n) = true := by simp; omega
          have hw : IntKind.i64.wrap ((j : Int) + 1) = ((j + 1 : Nat) : Int) := (IntWalk.i64_in _ (by have := HL.out; have := HN.out; omega)).trans (by omega)
          obtain ⟨x, hxj⟩ : ∃ x, L[j]? = some x := ⟨_, List.getElem?_eq_getElem (by rw [HN.out]; exact hlt)⟩
          have hxi := (HG.out.ok (List.mem_of_getElem? hxj)).id2
          obtain ⟨gi, hia, -, hgi, -, hcj⟩ := own_at (own_grow HROW.out gg) hlt
          rw [show (L.map Nd.id).getD j 0 = x.id by simp [List.getD_eq_getElem?_getD, hxj]] at hcj
          subst hia
          have HSX := hide (HSAME.out _ (HC7.out.trans gg) x.id hxi)
          have HJ := hide hlt
          have HGG := hide gg
          clear hj hlt hxj hxi hgi gg
          generalize x.id = u at *
          go_wp2_with fail
          refine HSX.out.mono ?_
          rintro e w8 ⟨rfl, c8⟩
          have HN8 := hide (HGG.out.trans c8)
          clear c8 hcj
          go_wp2
          go_roundw
          case rel => exact ⟨j + 1, HJ.out, rfl, HN8.out⟩
          case measure => have := HJ.out; simp [Go.RowKit.intOf]; omega
    · have q1 : decide ((k : Int) < len1) = true := by simp; omega
      have hw : IntKind.i64.wrap ((k : Int) + 1) = ((k + 1 : Nat) : Int) := (IntWalk.i64_in _ (by have := HLN.out; omega)).trans (by omega)
      have HK := hide hlt
      obtain ⟨b, off, o, rfl, hoo, -, hok, x0, x1, x2, x3, x4⟩ := (HOPS.out.chg hiv.cz (fun i hi h => by have := HZ.out; omega)).at_ hlt
      have hll := HLN.out.2.2 o (List.mem_of_getElem? hoo)
      obtain ⟨K, A, B, C, la, ll, lc, zs⟩ := o
      dsimp only at x0 x1 x2 x3 x4 hll
      rw [Nat.add_zero] at x0
      have hob := Blk.new wr 39 [.int .i64 K, .int .i64 A, .int .i64 B, .int .i64 C, .slice la ll lc]
      have hgo := Grow.box wr (.cells #[.int .i64 K, .int .i64 A, .int .i64 B, .int .i64 C, .slice la ll lc] 39)
      obtain ⟨S0, T, hg, hr, hd⟩ := hiv.bo
      have HSO := hide (fun j (h : S0 j) => (hg.s h).2)
      have HTO := hide (fun j (h : T j) => (hr.t h).2)
      have HD := hide hd
      have HG2 := hide ((hg.grow hgo).grow (Chg.refl (fun _ => False) _).drew)
      have HG0 := hide (hg.grow hgo)
      have HR2 := hide (hr.grow hgo)
      have HLL := hide hll
      have HA := hide hok.a
      have HB := hide hok.b
      have HC := hide hok.c
      have HN2 := hide hiv.n
      have HC2 := hide (hiv.cz.step hgo fun _ _ h => h.elim)
      have HROW := hide (HOPS.out.2.2.2.2 _ (List.mem_of_getElem? hoo)).row
      have hL : L.length < 1000000 := by have := HLN.out; have := hiv.n; omega
      have HL := hide hL
      have HOB := hide hob
      have HRR := hide (fun W (c : Chg S0 (wr.alloc (.cells #[.int .i64 K, .int .i64 A, .int .i64 B, .int .i64 C, .slice la ll lc] 39)).drew W) => (HR2.out.grow (Chg.refl (fun _ => False) _).drew).chg c fun k hk hs => HD.out k hs hk)
      clear hob hgo hd hg hr hok hll hoo hk hiv hL hlt
      by_cases k1 : K = 1
      · as_aux_lemma =>
        subst k1
        go_wp2_with fail
        generalize wr.alloc (.cells #[.int .i64 1, .int .i64 A, .int .i64 B, .int .i64 C, .slice la ll lc] 39) = wo at *
        generalize wr.heap.size = ob at *
        clear x0 x1 x2 x3 x4
        have y1 : wo.cell? ⟨ob, 1, none⟩ = some (.int .i64 A) := HOB.out.cell 1
        have y2 : wo.cell? ⟨ob, 2, none⟩ = some (.int .i64 B) := HOB.out.cell 2
        have y3 : wo.cell? ⟨ob, 3, none⟩ = some (.int .i64 C) := HOB.out.cell 3
        have HK1 := hide (fun W (c : Chg S0 wo.drew W) => (⟨keepB (HOB.out.cell 1) (fun h => Nat.lt_irrefl _ (HSO.out _ h)) c, keepB (HOB.out.cell 2) (fun h => Nat.lt_irrefl _ (HSO.out _ h)) c, keepB (HOB.out.cell 3) (fun h => Nat.lt_irrefl _ (HSO.out _ h)) c⟩ : (fun w' : World => w'.cell? ⟨ob, 1, none⟩ = some (.int .i64 A) ∧ w'.cell? ⟨ob, 2, none⟩ = some (.int .i64 B) ∧ w'.cell? ⟨ob, 3, none⟩ = some (.int .i64 C)) W))
        have HK2 := hide (fun W W' (c : Chg S0 wo.drew W) (c' : Chg T W W') => (⟨c'.cell (HK1.out W c).1 (fun h => Nat.lt_irrefl _ (HTO.out _ h)), c'.cell (HK1.out W c).2.1 (fun h => Nat.lt_irrefl _ (HTO.out _ h)), c'.cell (HK1.out W c).2.2 (fun h => Nat.lt_irrefl _ (HTO.out _ h))⟩ : (fun w' : World => w'.cell? ⟨ob, 1, none⟩ = some (.int .i64 A) ∧ w'.cell? ⟨ob, 2, none⟩ = some (.int .i64 B) ∧ w'.cell? ⟨ob, 3, none⟩ = some (.int .i64 C)) W'))
        have HS1 := hide (add_gs HG2.out HL.out HA.out B C)
        have HS2 := hide (fun W (c : Chg S0 wo.drew W) => add_r (HRR.out W c) (HCL.out.chg ((HC2.out.drew).step c fun i hi h => (HG2.out.s h).1) fun i hi h => by have := HZ.out.1; omega) HG2.out.lok HALL.out HL.out (by have := HLEN.out; omega) A B C)
        have HLE := hide (adL_len cs L A B C)
        generalize adX cs L A B C = X at *
        generalize adL cs L A B C = L2 at *
        have q9 : (X == X) = true := beq_self_eq_true _
        clear HOB HRR
        go_region_held3 (fun w' => w'.cell? ⟨ob, 1, none⟩ = some (.int .i64 A) ∧ w'.cell? ⟨ob, 2, none⟩ = some (.int .i64 B) ∧ w'.cell? ⟨ob, 3, none⟩ = some (.int .i64 C)) (first | exact HK2.out _ _ c3 c4 | exact HK1.out _ c3 | go_keep) (first | (go_at_call 14; refine HS1.out.mono ?_; rintro e w3 ⟨rfl, c3, S3, h3, s3⟩) | (go_at_call 15; refine (HS2.out _ c3).mono ?_; rintro e w4 ⟨rfl, c4, T4, h4, t4⟩))
        clear y1 y2 y3 q9
        have h5 := Bo.two HG2.out (HR2.out.grow (Chg.refl (fun _ => False) wo).drew) HD.out c3 h3 s3 c4 h4 t4
        have y1' := (HK2.out _ _ c3 c4).1
        have H1 := hide (Inv.mk (n := k + 1) h5.1 (by have := HLE.out; have := HN2.out; omega) (HC2.out.drew.step h5.2 fun _ _ h => h))
        clear h5 c3 h3 c4 h4 s3 t4
        have y1 := y1'
        clear y1' HS1 HS2 HK1 HK2 HSO HTO HD HG0 HG2 HR2 HROW HLL HN2 HC2 HL HB HC HOPS HLE
        generalize w4 = wx at *
        -- H1 : Hid (Inv w wx z p q (.slice a len cap) cs (k + 1) L2); y1 : wx.cell? ⟨ob, 1, none⟩ = some (.int .i64 A)
        obtain ⟨S2, T2, hg2, hr2, -⟩ := H1.out.bo
        have hn2 := H1.out.n
        have HCZ2 := hide (HCL.out.chg H1.out.cz fun i hi h => by have := HZ.out.1; omega)
        have hL2 : L2.length < 1000000 := by have := HK.out; have := HLN.out; omega
        have HSAME := hide (same_g hg2 hr2 HCZ2.out HALL.out hL2 (by have := HLEN.out; omega) HA.out)
        have HI1 := hide (fun (W : World) (g : Grow wx W) => ids_gs (hg2.grow g) hL2)
        have HI2 := hide (fun (W : World) (g : Grow wx W) => ids_r (hr2.grow g) hL2)
        have HW1 := hide (fun (W : World) (g : Grow wx W) => words_gs (hg2.grow g) hL2)
        have HW2 := hide (fun (W : World) (g : Grow wx W) => words_r (hr2.grow g) hg2.lok hL2)
        obtain ⟨n2, hn3⟩ : ∃ n2, L2.length = n2 := ⟨_, rfl⟩
        obtain ⟨ws, hws⟩ : ∃ ws, wos L2 = ws := ⟨_, rfl⟩
        rw [hn3] at HI1 HI2
        rw [hws] at HW1 HW2
        rw [hn3] at hL2
        have HL2 := hide hL2
        clear hg2 hr2 hn2 hn3 hws HCZ2 hL2
        go_wp2_with fail
        refine HSAME.out.mono ?_
        rintro e w5 ⟨rfl, c5⟩
        clear y1
        go_wp2_with fail
        refine (HI1.out _ c5).mono ?_
        rintro e w6 ⟨ia, ic, rfl, hrow, c6⟩
        have c56 := c5.trans c6
        have HROW := hide hrow
        clear hrow
        go_wp2_with fail
        refine (HI2.out _ c56).mono ?_
        rintro e w7 ⟨ja, jc, rfl, hrow2, c7⟩
        have c57 := c56.trans c7
        have HRD1 := hide (own_rd (own_grow HROW.out c7))
        have HRD2 := hide (own_rd hrow2)
        clear hrow2 HROW c56 c5 c6 c7
        go_wp2_with fail
        refine (L1.same_yes _ _ _ _ _ _ _ HRD1.out HRD2.out (by have := HL2.out; omega)).mono ?_
        rintro e w8 ⟨rfl, c8⟩
        have c58 := c57.trans c8
        clear c57 c8 HRD1 HRD2
        go_wp2_with fail
        refine (HW1.out _ c58).mono ?_
        rintro e w9 ⟨rfl, c9⟩
        have c59 := c58.trans c9
        clear c58 c9
        go_wp2_with fail
        refine (HW2.out _ c59).mono ?_
        rintro e w10 ⟨rfl, c10⟩
        have q9 : ((ws : Int) != (ws : Int)) = false := bne_self_eq_false _
        have HN := hide (H1.out.grow (c59.trans c10))
        clear c59 c10
        go_wp2
        go_roundw
        case rel => exact ⟨k + 1, L2, HK.out, rfl, HN.out⟩
        case measure => have := HK.out; simp [Go.RowKit.intOf]; omega
      by_cases k2 : K = 2
      · as_aux_lemma =>
        clear k1
        subst k2
        go_wp2_with fail
        generalize wr.alloc (.cells #[.int .i64 2, .int .i64 A, .int .i64 B, .int .i64 C, .slice la ll lc] 39) = wo at *
        generalize wr.heap.size = ob at *
        clear x0 x1 x2 x3 x4
        have y1 : wo.cell? ⟨ob, 1, none⟩ = some (.int .i64 A) := HOB.out.cell 1
        have y2 : wo.cell? ⟨ob, 2, none⟩ = some (.int .i64 B) := HOB.out.cell 2
        have y3 : wo.cell? ⟨ob, 3, none⟩ = some (.int .i64 C) := HOB.out.cell 3
        have HK1 := hide (fun W (c : Chg S0 wo.drew W) => (⟨keepB (HOB.out.cell 1) (fun h => Nat.lt_irrefl _ (HSO.out _ h)) c, keepB (HOB.out.cell 2) (fun h => Nat.lt_irrefl _ (HSO.out _ h)) c, keepB (HOB.out.cell 3) (fun h => Nat.lt_irrefl _ (HSO.out _ h)) c⟩ : (fun w' : World => w'.cell? ⟨ob, 1, none⟩ = some (.int .i64 A) ∧ w'.cell? ⟨ob, 2, none⟩ = some (.int .i64 B) ∧ w'.cell? ⟨ob, 3, none⟩ = some (.int .i64 C)) W))
        have HK2 := hide (fun W W' (c : Chg S0 wo.drew W) (c' : Chg T W W') => (⟨c'.cell (HK1.out W c).1 (fun h => Nat.lt_irrefl _ (HTO.out _ h)), c'.cell (HK1.out W c).2.1 (fun h => Nat.lt_irrefl _ (HTO.out _ h)), c'.cell (HK1.out W c).2.2 (fun h => Nat.lt_irrefl _ (HTO.out _ h))⟩ : (fun w' : World => w'.cell? ⟨ob, 1, none⟩ = some (.int .i64 A) ∧ w'.cell? ⟨ob, 2, none⟩ = some (.int .i64 B) ∧ w'.cell? ⟨ob, 3, none⟩ = some (.int .i64 C)) W'))
        have HS1 := hide (setref_gs HG2.out HA.out HB.out HC.out)
        have HS2 := hide (fun W (c : Chg S0 wo.drew W) => setref_r (i := A) (t0 := B) (t := C) (HRR.out W c) HG2.out.lok HL.out)
        have HLE := hide (show (srL L A B C).length ≤ L.length + 1 by rw [srL_len]; omega)
        generalize srX L A B C = X at *
        generalize srL L A B C = L2 at *
        have q9 : (X == X) = true := beq_self_eq_true _
        clear HOB HRR
        go_region_held3 (fun w' => w'.cell? ⟨ob, 1, none⟩ = some (.int .i64 A) ∧ w'.cell? ⟨ob, 2, none⟩ = some (.int .i64 B) ∧ w'.cell? ⟨ob, 3, none⟩ = some (.int .i64 C)) (first | exact HK2.out _ _ c3 c4 | exact HK1.out _ c3 | go_keep) (first | (go_at_call 16; refine HS1.out.mono ?_; rintro e w3 ⟨rfl, c3, h3⟩) | (go_at_call 17; refine (HS2.out _ c3).mono ?_; rintro e w4 ⟨rfl, c4, h4⟩))
        clear y1 y2 y3 q9
        have h5 := Bo.two HG2.out (HR2.out.grow (Chg.refl (fun _ => False) wo).drew) HD.out c3 h3 (fun k hk => .inl hk) c4 h4 (fun k hk => .inl hk)
        have y1' := (HK2.out _ _ c3 c4).1
        have H1 := hide (Inv.mk (n := k + 1) h5.1 (by have := HLE.out; have := HN2.out; omega) (HC2.out.drew.step h5.2 fun _ _ h => h))
        clear h5 c3 h3 c4 h4 q1
        have y1 := y1'
        clear y1' HS1 HS2 HK1 HK2 HSO HTO HD HG0 HG2 HR2 HROW HLL HN2 HC2 HL HB HC HOPS HLE
        generalize w4 = wx at *
        -- H1 : Hid (Inv w wx z p q (.slice a len cap) cs (k + 1) L2); y1 : wx.cell? ⟨ob, 1, none⟩ = some (.int .i64 A)
        obtain ⟨S2, T2, hg2, hr2, -⟩ := H1.out.bo
        have hn2 := H1.out.n
        have HCZ2 := hide (HCL.out.chg H1.out.cz fun i hi h => by have := HZ.out.1; omega)
        have hL2 : L2.length < 1000000 := by have := HK.out; have := HLN.out; omega
        have HSAME := hide (same_g hg2 hr2 HCZ2.out HALL.out hL2 (by have := HLEN.out; omega) HA.out)
        have HI1 := hide (fun (W : World) (g : Grow wx W) => ids_gs (hg2.grow g) hL2)
        have HI2 := hide (fun (W : World) (g : Grow wx W) => ids_r (hr2.grow g) hL2)
        have HW1 := hide (fun (W : World) (g : Grow wx W) => words_gs (hg2.grow g) hL2)
        have HW2 := hide (fun (W : World) (g : Grow wx W) => words_r (hr2.grow g) hg2.lok hL2)
        obtain ⟨n2, hn3⟩ : ∃ n2, L2.length = n2 := ⟨_, rfl⟩
        obtain ⟨ws, hws⟩ : ∃ ws, wos L2 = ws := ⟨_, rfl⟩
        rw [hn3] at HI1 HI2
        rw [hws] at HW1 HW2
        rw [hn3] at hL2
        have HL2 := hide hL2
        clear hg2 hr2 hn2 hn3 hws HCZ2 hL2
        go_wp2_with fail
        refine HSAME.out.mono ?_
        rintro e w5 ⟨rfl, c5⟩
        clear y1
        go_wp2_with fail
        refine (HI1.out _ c5).mono ?_
        rintro e w6 ⟨ia, ic, rfl, hrow, c6⟩
        have c56 := c5.trans c6
        have HROW := hide hrow
        clear hrow
        go_wp2_with fail
        refine (HI2.out _ c56).mono ?_
        rintro e w7 ⟨ja, jc, rfl, hrow2, c7⟩
        have c57 := c56.trans c7
        have HRD1 := hide (own_rd (own_grow HROW.out c7))
        have HRD2 := hide (own_rd hrow2)
        clear hrow2 HROW c56 c5 c6 c7
        go_wp2_with fail
        refine (L1.same_yes _ _ _ _ _ _ _ HRD1.out HRD2.out (by have := HL2.out; omega)).mono ?_
        rintro e w8 ⟨rfl, c8⟩
        have c58 := c57.trans c8
        clear c57 c8 HRD1 HRD2
        go_wp2_with fail
        refine (HW1.out _ c58).mono ?_
        rintro e w9 ⟨rfl, c9⟩
        have c59 := c58.trans c9
        clear c58 c9
        go_wp2_with fail
        refine (HW2.out _ c59).mono ?_
        rintro e w10 ⟨rfl, c10⟩
        have q9 : ((ws : Int) != (ws : Int)) = false := bne_self_eq_false _
        have HN := hide (H1.out.grow (c59.trans c10))
        clear c59 c10
        go_wp2
        go_roundw
        case rel => exact ⟨k + 1, L2, HK.out, rfl, HN.out⟩
        case measure => have := HK.out; simp [Go.RowKit.intOf]; omega
      by_cases k3 : K = 3
      · as_aux_lemma =>
        clear k1 k2
        subst k3
        go_wp2_with fail
        generalize wr.alloc (.cells #[.int .i64 3, .int .i64 A, .int .i64 B, .int .i64 C, .slice la ll lc] 39) = wo at *
        generalize wr.heap.size = ob at *
        clear x0 x1 x2 x3 x4
        have y1 : wo.cell? ⟨ob, 1, none⟩ = some (.int .i64 A) := HOB.out.cell 1
        have y2 : wo.cell? ⟨ob, 2, none⟩ = some (.int .i64 B) := HOB.out.cell 2
        have y3 : wo.cell? ⟨ob, 3, none⟩ = some (.int .i64 C) := HOB.out.cell 3
        have HK1 := hide (fun W (c : Chg S0 wo.drew W) => (⟨keepB (HOB.out.cell 1) (fun h => Nat.lt_irrefl _ (HSO.out _ h)) c, keepB (HOB.out.cell 2) (fun h => Nat.lt_irrefl _ (HSO.out _ h)) c, keepB (HOB.out.cell 3) (fun h => Nat.lt_irrefl _ (HSO.out _ h)) c⟩ : (fun w' : World => w'.cell? ⟨ob, 1, none⟩ = some (.int .i64 A) ∧ w'.cell? ⟨ob, 2, none⟩ = some (.int .i64 B) ∧ w'.cell? ⟨ob, 3, none⟩ = some (.int .i64 C)) W))
        have HK2 := hide (fun W W' (c : Chg S0 wo.drew W) (c' : Chg T W W') => (⟨c'.cell (HK1.out W c).1 (fun h => Nat.lt_irrefl _ (HTO.out _ h)), c'.cell (HK1.out W c).2.1 (fun h => Nat.lt_irrefl _ (HTO.out _ h)), c'.cell (HK1.out W c).2.2 (fun h => Nat.lt_irrefl _ (HTO.out _ h))⟩ : (fun w' : World => w'.cell? ⟨ob, 1, none⟩ = some (.int .i64 A) ∧ w'.cell? ⟨ob, 2, none⟩ = some (.int .i64 B) ∧ w'.cell? ⟨ob, 3, none⟩ = some (.int .i64 C)) W'))
        have HS1 := hide (setnum_gs HG2.out C HA.out HB.out)
        have HS2 := hide (fun W (c : Chg S0 wo.drew W) => setnum_r (i := A) (t0 := B) (t := C) (HRR.out W c) HG2.out.lok HL.out)
        have HLE := hide (show (snL L A B C).length ≤ L.length + 1 by rw [snL_len]; omega)
        generalize snX L A B = X at *
        generalize snL L A B C = L2 at *
        have q9 : (X == X) = true := beq_self_eq_true _
        clear HOB HRR
        go_region_held3 (fun w' => w'.cell? ⟨ob, 1, none⟩ = some (.int .i64 A) ∧ w'.cell? ⟨ob, 2, none⟩ = some (.int .i64 B) ∧ w'.cell? ⟨ob, 3, none⟩ = some (.int .i64 C)) (first | exact HK2.out _ _ c3 c4 | exact HK1.out _ c3 | go_keep) (first | (go_at_call 18; refine HS1.out.mono ?_; rintro e w3 ⟨rfl, c3, h3⟩) | (go_at_call 19; refine (HS2.out _ c3).mono ?_; rintro e w4 ⟨rfl, c4, h4⟩))
        clear y1 y2 y3 q9
        have h5 := Bo.two HG2.out (HR2.out.grow (Chg.refl (fun _ => False) wo).drew) HD.out c3 h3 (fun k hk => .inl hk) c4 h4 (fun k hk => .inl hk)
        have y1' := (HK2.out _ _ c3 c4).1
        have H1 := hide (Inv.mk (n := k + 1) h5.1 (by have := HLE.out; have := HN2.out; omega) (HC2.out.drew.step h5.2 fun _ _ h => h))
        clear h5 c3 h3 c4 h4 q1
        have y1 := y1'
        clear y1' HS1 HS2 HK1 HK2 HSO HTO HD HG0 HG2 HR2 HROW HLL HN2 HC2 HL HB HC HOPS HLE
        generalize w4 = wx at *
        -- H1 : Hid (Inv w wx z p q (.slice a len cap) cs (k + 1) L2); y1 : wx.cell? ⟨ob, 1, none⟩ = some (.int .i64 A)
        obtain ⟨S2, T2, hg2, hr2, -⟩ := H1.out.bo
        have hn2 := H1.out.n
        have HCZ2 := hide (HCL.out.chg H1.out.cz fun i hi h => by have := HZ.out.1; omega)
        have hL2 : L2.length < 1000000 := by have := HK.out; have := HLN.out; omega
        have HSAME := hide (same_g hg2 hr2 HCZ2.out HALL.out hL2 (by have := HLEN.out; omega) HA.out)
        have HI1 := hide (fun (W : World) (g : Grow wx W) => ids_gs (hg2.grow g) hL2)
        have HI2 := hide (fun (W : World) (g : Grow wx W) => ids_r (hr2.grow g) hL2)
        have HW1 := hide (fun (W : World) (g : Grow wx W) => words_gs (hg2.grow g) hL2)
        have HW2 := hide (fun (W : World) (g : Grow wx W) => words_r (hr2.grow g) hg2.lok hL2)
        obtain ⟨n2, hn3⟩ : ∃ n2, L2.length = n2 := ⟨_, rfl⟩
        obtain ⟨ws, hws⟩ : ∃ ws, wos L2 = ws := ⟨_, rfl⟩
        rw [hn3] at HI1 HI2
        rw [hws] at HW1 HW2
        rw [hn3] at hL2
        have HL2 := hide hL2
        clear hg2 hr2 hn2 hn3 hws HCZ2 hL2
        go_wp2_with fail
        refine HSAME.out.mono ?_
        rintro e w5 ⟨rfl, c5⟩
        clear y1
        go_wp2_with fail
        refine (HI1.out _ c5).mono ?_
        rintro e w6 ⟨ia, ic, rfl, hrow, c6⟩
        have c56 := c5.trans c6
        have HROW := hide hrow
        clear hrow
        go_wp2_with fail
        refine (HI2.out _ c56).mono ?_
        rintro e w7 ⟨ja, jc, rfl, hrow2, c7⟩
        have c57 := c56.trans c7
        have HRD1 := hide (own_rd (own_grow HROW.out c7))
        have HRD2 := hide (own_rd hrow2)
        clear hrow2 HROW c56 c5 c6 c7
        go_wp2_with fail
        refine (L1.same_yes _ _ _ _ _ _ _ HRD1.out HRD2.out (by have := HL2.out; omega)).mono ?_
        rintro e w8 ⟨rfl, c8⟩
        have c58 := c57.trans c8
        clear c57 c8 HRD1 HRD2
        go_wp2_with fail
        refine (HW1.out _ c58).mono ?_
        rintro e w9 ⟨rfl, c9⟩
        have c59 := c58.trans c9
        clear c58 c9
        go_wp2_with fail
        refine (HW2.out _ c59).mono ?_
        rintro e w10 ⟨rfl, c10⟩
        have q9 : ((ws : Int) != (ws : Int)) = false := bne_self_eq_false _
        have HN := hide (H1.out.grow (c59.trans c10))
        clear c59 c10
        go_wp2
        go_roundw
        case rel => exact ⟨k + 1, L2, HK.out, rfl, HN.out⟩
        case measure => have := HK.out; simp [Go.RowKit.intOf]; omega
      by_cases k4 : K = 4
      · clear k1 k2 k3
        subst k4
        cases hn : nd L A with
        | none =>
          as_aux_lemma =>
          have HDX := hide (show dnX L A = 7 by unfold dnX; rw [hn])
          have HDL := hide (show dnL L A = L by unfold dnL; rw [HDX.out]; rfl)
          have HNN := hide hn
          clear hn
          go_wp2_with fail
          generalize wr.alloc (.cells #[.int .i64 4, .int .i64 A, .int .i64 B, .int .i64 C, .slice la ll lc] 39) = wo at *
          generalize wr.heap.size = ob at *
          clear x0 x1 x2 x3 x4
          have y1 : wo.cell? ⟨ob, 1, none⟩ = some (.int .i64 A) := HOB.out.cell 1
          go_wp2_with fail
          refine (at_no HR2.out HNN.out HL.out).mono ?_
          rintro e w' ⟨rfl, rfl⟩
          go_wp2_with fail
          refine (done_gs HG0.out HA.out).mono ?_
          rintro e w3 ⟨rfl, c3, h3⟩
          rw [HDX.out]
          rw [HDL.out] at h3
          have y1 : w3.cell? ⟨ob, 1, none⟩ = some (.int .i64 A) := c3.cell (HOB.out.cell 1) (fun h => Nat.lt_irrefl _ (HSO.out _ h))
          have H1 := hide (Inv.mk (n := k + 1) ⟨S0, T, h3, HR2.out.chg c3 (fun j hk hs => HD.out j hs hk), HD.out⟩ (by have := HN2.out; omega) (HC2.out.step c3 fun i hi h => (HG0.out.s h).1))
          clear HRR HSO HTO HD HG0 HG2 HR2 HROW HLL HN2 HC2 HL HB HC HOPS HOB HNN HDX HDL h3 c3
          generalize w3 = wx at *
          generalize L = L2 at *
          -- H1 : Hid (Inv w wx z p q (.slice a len cap) cs (k + 1) L2); y1 : wx.cell? ⟨ob, 1, none⟩ = some (.int .i64 A)
          obtain ⟨S2, T2, hg2, hr2, -⟩ := H1.out.bo
          have hn2 := H1.out.n
          have HCZ2 := hide (HCL.out.chg H1.out.cz fun i hi h => by have := HZ.out.1; omega)
          have hL2 : L2.length < 1000000 := by have := HK.out; have := HLN.out; omega
          have HSAME := hide (same_g hg2 hr2 HCZ2.out HALL.out hL2 (by have := HLEN.out; omega) HA.out)
          have HI1 := hide (fun (W : World) (g : Grow wx W) => ids_gs (hg2.grow g) hL2)
          have HI2 := hide (fun (W : World) (g : Grow wx W) => ids_r (hr2.grow g) hL2)
          have HW1 := hide (fun (W : World) (g : Grow wx W) => words_gs (hg2.grow g) hL2)
          have HW2 := hide (fun (W : World) (g : Grow wx W) => words_r (hr2.grow g) hg2.lok hL2)
          obtain ⟨n2, hn3⟩ : ∃ n2, L2.length = n2 := ⟨_, rfl⟩
          obtain ⟨ws, hws⟩ : ∃ ws, wos L2 = ws := ⟨_, rfl⟩
          rw [hn3] at HI1 HI2
          rw [hws] at HW1 HW2
          rw [hn3] at hL2
          have HL2 := hide hL2
          clear hg2 hr2 hn2 hn3 hws HCZ2 hL2
          go_wp2_with fail
          refine HSAME.out.mono ?_
          rintro e w5 ⟨rfl, c5⟩
          clear y1
          go_wp2_with fail
          refine (HI1.out _ c5).mono ?_
          rintro e w6 ⟨ia, ic, rfl, hrow, c6⟩
          have c56 := c5.trans c6
          have HROW := hide hrow
          clear hrow
          go_wp2_with fail
          refine (HI2.out _ c56).mono ?_
          rintro e w7 ⟨ja, jc, rfl, hrow2, c7⟩
          have c57 := c56.trans c7
          have HRD1 := hide (own_rd (own_grow HROW.out c7))
          have HRD2 := hide (own_rd hrow2)
          clear hrow2 HROW c56 c5 c6 c7
          go_wp2_with fail
          refine (L1.same_yes _ _ _ _ _ _ _ HRD1.out HRD2.out (by have := HL2.out; omega)).mono ?_
          rintro e w8 ⟨rfl, c8⟩
          have c58 := c57.trans c8
          clear c57 c8 HRD1 HRD2
          go_wp2_with fail
          refine (HW1.out _ c58).mono ?_
          rintro e w9 ⟨rfl, c9⟩
          have c59 := c58.trans c9
          clear c58 c9
          go_wp2_with fail
          refine (HW2.out _ c59).mono ?_
          rintro e w10 ⟨rfl, c10⟩
          have q9 : ((ws : Int) != (ws : Int)) = false := bne_self_eq_false _
          have HN := hide (H1.out.grow (c59.trans c10))
          clear c59 c10
          go_wp2
          go_roundw
          case rel => exact ⟨k + 1, L2, HK.out, rfl, HN.out⟩
          case measure => have := HK.out; simp [Go.RowKit.intOf]; omega
        | some x =>
          as_aux_lemma =>
          obtain ⟨j, hj, hjl⟩ := nd_at hn
          obtain ⟨hx, hxa⟩ := nd_some hn
          have HDX := hide (show dnX L A = 0 by unfold dnX; rw [hn])
          have HDL := hide (show dnL L A = L.set j { x with fin := false } by unfold dnL; rw [HDX.out, ← hxa]; exact updN_set HG0.out.srt hj _)
          have HLE := hide (show (dnL L A).length ≤ L.length + 1 by rw [dnL_len]; omega)
          have HJ := hide hj
          have hat := fun W (h : RG W z T q (.slice a len cap) L) => at_yes h HG0.out.srt hj HL.out
          rw [hxa] at hat
          have HAT := hide hat
          have q2 : decide ((j : Int) ≥ 0) = true := decide_eq_true (by omega)
          obtain ⟨N, hN⟩ : ∃ N, L.length = N := ⟨_, rfl⟩
          have HNL := hide hN
          rw [hN] at hjl
          have q3 : decide ((j : Int) < 0) = false := decide_eq_false (by omega)
          have q4 : decide ((j : Int) < (N : Int)) = true := decide_eq_true (by omega)
          obtain ⟨v, r, d, ow, hf⟩ := HR2.out
          obtain ⟨g, vc, rfl, hTg, -, -, -, -, -, -, -⟩ := hf.at_ hj
          rw [hN] at hf
          have HF := hide hf
          have HTG := hide hTg
          clear hn hj hx hN hf hTg hat hxa
          go_wp2_with fail
          generalize wr.alloc (.cells #[.int .i64 4, .int .i64 A, .int .i64 B, .int .i64 C, .slice la ll lc] 39) = wo at *
          generalize wr.heap.size = ob at *
          clear x0 x1 x2 x3 x4
          have y1 : wo.cell? ⟨ob, 1, none⟩ = some (.int .i64 A) := HOB.out.cell 1
          go_wp2_with fail
          refine (HAT.out _ HR2.out).mono ?_
          rintro e w' ⟨rfl, rfl⟩
          go_wp2_with fail
          refine (done_gs HG0.out HA.out).mono ?_
          rintro e w3 ⟨rfl, c3, h3⟩
          rw [HDX.out]
          have y1 : w3.cell? ⟨ob, 1, none⟩ = some (.int .i64 A) := c3.cell (HOB.out.cell 1) (fun h => Nat.lt_irrefl _ (HSO.out _ h))
          have f3 := HF.out.chg c3 (fun j hk hs => HD.out j hs hk)
          have z1 := f3.cell1
          obtain ⟨g', hg', -, -, -, -, -, -, -, z4⟩ := f3.at2 HJ.out
          injection hg' with hg'
          injection hg' with hg'
          subst hg'
          have z5 : w3.frozen? ⟨g, j * 5 + 4, none⟩ = false := by have h := f3.own; rw [HNL.out] at h; exact h.frozenAt _
          have c4 : Chg T w3 (w3.setCell ⟨g, j * 5 + 4, none⟩ (.bool false)) := (Chg.refl T w3).setCell (fun _ => HTG.out) _
          have f4 := f3.done HG0.out.srt HJ.out (fun p hp => (HG0.out.ok hp).id1)
          rw [← HDL.out] at f4
          have h5 := Bo.two HG0.out HR2.out HD.out c3 h3 (fun k hk => .inl hk) c4 ⟨_, _, _, _, f4⟩ (fun k hk => .inl hk)
          have H1 := hide (Inv.mk (n := k + 1) h5.1 (by have := HLE.out; have := HN2.out; omega) (HC2.out.step h5.2 fun _ _ h => h))
          have Y1 := hide (show (w3.setCell ⟨g, j * 5 + 4, none⟩ (.bool false)).cell? ⟨ob, 1, none⟩ = some (.int .i64 A) from c4.cell y1 (fun h => Nat.lt_irrefl _ (HTO.out _ h)))
          clear h5 f4 c4 h3 c3 HRR HSO HTO HD HG0 HG2 HR2 HROW HLL HN2 HC2 HL HB HC HOPS HOB HDX HDL HF HTG f3 HJ HNL HLE HAT y1
          generalize dnL L A = L2 at *
          generalize x.fin = bf at *
          have y1 := Y1.out
          go_wp2_with fail
          clear y1
          generalize w3.setCell ⟨g, j * 5 + 4, none⟩ (.bool false) = wx at *
          have y1 := Y1.out
          clear Y1 z1 z4 z5 q2 q3 q4 hjl
          -- H1 : Hid (Inv w wx z p q (.slice a len cap) cs (k + 1) L2); y1 : wx.cell? ⟨ob, 1, none⟩ = some (.int .i64 A)
          obtain ⟨S2, T2, hg2, hr2, -⟩ := H1.out.bo
          have hn2 := H1.out.n
          have HCZ2 := hide (HCL.out.chg H1.out.cz fun i hi h => by have := HZ.out.1; omega)
          have hL2 : L2.length < 1000000 := by have := HK.out; have := HLN.out; omega
          have HSAME := hide (same_g hg2 hr2 HCZ2.out HALL.out hL2 (by have := HLEN.out; omega) HA.out)
          have HI1 := hide (fun (W : World) (g : Grow wx W) => ids_gs (hg2.grow g) hL2)
          have HI2 := hide (fun (W : World) (g : Grow wx W) => ids_r (hr2.grow g) hL2)
          have HW1 := hide (fun (W : World) (g : Grow wx W) => words_gs (hg2.grow g) hL2)
          have HW2 := hide (fun (W : World) (g : Grow wx W) => words_r (hr2.grow g) hg2.lok hL2)
          obtain ⟨n2, hn3⟩ : ∃ n2, L2.length = n2 := ⟨_, rfl⟩
          obtain ⟨ws, hws⟩ : ∃ ws, wos L2 = ws := ⟨_, rfl⟩
          rw [hn3] at HI1 HI2
          rw [hws] at HW1 HW2
          rw [hn3] at hL2
          have HL2 := hide hL2
          clear hg2 hr2 hn2 hn3 hws HCZ2 hL2
          refine HSAME.out.mono ?_
          rintro e w5 ⟨rfl, c5⟩
          clear y1
          go_wp2_with fail
          refine (HI1.out _ c5).mono ?_
          rintro e w6 ⟨ia, ic, rfl, hrow, c6⟩
          have c56 := c5.trans c6
          have HROW := hide hrow
          clear hrow
          go_wp2_with fail
          refine (HI2.out _ c56).mono ?_
          rintro e w7 ⟨ja, jc, rfl, hrow2, c7⟩
          have c57 := c56.trans c7
          have HRD1 := hide (own_rd (own_grow HROW.out c7))
          have HRD2 := hide (own_rd hrow2)
          clear hrow2 HROW c56 c5 c6 c7
          go_wp2_with fail
          refine (L1.same_yes _ _ _ _ _ _ _ HRD1.out HRD2.out (by have := HL2.out; omega)).mono ?_
          rintro e w8 ⟨rfl, c8⟩
          have c58 := c57.trans c8
          clear c57 c8 HRD1 HRD2
          go_wp2_with fail
          refine (HW1.out _ c58).mono ?_
          rintro e w9 ⟨rfl, c9⟩
          have c59 := c58.trans c9
          clear c58 c9
          go_wp2_with fail
          refine (HW2.out _ c59).mono ?_
          rintro e w10 ⟨rfl, c10⟩
          have q9 : ((ws : Int) != (ws : Int)) = false := bne_self_eq_false _
          have HN := hide (H1.out.grow (c59.trans c10))
          clear c59 c10
          go_wp2
          go_roundw
          case rel => exact ⟨k + 1, L2, HK.out, rfl, HN.out⟩
          case measure => have := HK.out; simp [Go.RowKit.intOf]; omega
      by_cases k5 : K = 5
      · as_aux_lemma =>
        clear k1 k2 k3 k4
        subst k5
        go_wp2_with fail
        generalize wr.alloc (.cells #[.int .i64 5, .int .i64 A, .int .i64 B, .int .i64 C, .slice la ll lc] 39) = wo at *
        generalize wr.heap.size = ob at *
        clear x0 x1 x2 x3 x4
        have y1 : wo.cell? ⟨ob, 1, none⟩ = some (.int .i64 A) := HOB.out.cell 1
        have y4 : wo.cell? ⟨ob, 4, none⟩ = some (.slice la ll lc) := HOB.out.cell 4
        have HK1 := hide (fun W (c : Chg S0 wo.drew W) => (keepB (HOB.out.cell 4) (fun h => Nat.lt_irrefl _ (HSO.out _ h)) c : (fun w' : World => w'.cell? ⟨ob, 4, none⟩ = some (.slice la ll lc)) W))
        have HK2 := hide (fun W W' (c : Chg S0 wo.drew W) (c' : Chg T W W') => (c'.cell (HK1.out W c) (fun h => Nat.lt_irrefl _ (HTO.out _ h)) : (fun w' : World => w'.cell? ⟨ob, 4, none⟩ = some (.slice la ll lc)) W'))
        have HKA := hide (fun W W' (c : Chg S0 wo.drew W) (c' : Chg T W W') => (⟨c'.cell (keepB (HOB.out.cell 1) (fun h => Nat.lt_irrefl _ (HSO.out _ h)) c) (fun h => Nat.lt_irrefl _ (HTO.out _ h)), trivial⟩ : W'.cell? ⟨ob, 1, none⟩ = some (.int .i64 A) ∧ True))
        have HS1 := hide (keep_gs HG2.out HL.out (HROW.out.chg HC2.out.drew fun i hi h => by have := HZ.out.1; omega) (by have := HLL.out; omega))
        have HS2 := hide (fun W (c : Chg S0 wo.drew W) => keep_r (HRR.out W c) HG2.out.lok (HROW.out.chg ((HC2.out.drew).step c fun i hi h => (HG2.out.s h).1) fun i hi h => by have := HZ.out.1; omega) HL.out (by have := HLL.out; omega))
        have HLE := hide (show (kpL L zs).length ≤ L.length + 1 by have := kp_len L zs; omega)
        generalize kpN L zs = X at *
        generalize kpL L zs = L2 at *
        have q9 : ((X : Int) == (X : Int)) = true := beq_self_eq_true _
        clear HOB HRR
        go_region_held3 (fun w' => w'.cell? ⟨ob, 4, none⟩ = some (.slice la ll lc)) (first | exact HK2.out _ _ c3 c4 | exact HK1.out _ c3 | go_keep) (first | (go_at_call 22; refine HS1.out.mono ?_; rintro e w3 ⟨rfl, c3, h3⟩) | (go_at_call 23; refine (HS2.out _ c3).mono ?_; rintro e w4 ⟨rfl, c4, T4, h4, t4⟩))
        clear y1 y4 q9
        replace HK2 := HKA
        have h5 := Bo.two HG2.out (HR2.out.grow (Chg.refl (fun _ => False) wo).drew) HD.out c3 h3 (fun k hk => .inl hk) c4 h4 t4
        have y1' := (HK2.out _ _ c3 c4).1
        have H1 := hide (Inv.mk (n := k + 1) h5.1 (by have := HLE.out; have := HN2.out; omega) (HC2.out.drew.step h5.2 fun _ _ h => h))
        clear h5 c3 h3 c4 h4 t4 HKA
        have y1 := y1'
        clear y1' HS1 HS2 HK1 HK2 HSO HTO HD HG0 HG2 HR2 HROW HLL HN2 HC2 HL HB HC HOPS HLE
        generalize w4 = wx at *
        -- H1 : Hid (Inv w wx z p q (.slice a len cap) cs (k + 1) L2); y1 : wx.cell? ⟨ob, 1, none⟩ = some (.int .i64 A)
        obtain ⟨S2, T2, hg2, hr2, -⟩ := H1.out.bo
        have hn2 := H1.out.n
        have HCZ2 := hide (HCL.out.chg H1.out.cz fun i hi h => by have := HZ.out.1; omega)
        have hL2 : L2.length < 1000000 := by have := HK.out; have := HLN.out; omega
        have HSAME := hide (same_g hg2 hr2 HCZ2.out HALL.out hL2 (by have := HLEN.out; omega) HA.out)
        have HI1 := hide (fun (W : World) (g : Grow wx W) => ids_gs (hg2.grow g) hL2)
        have HI2 := hide (fun (W : World) (g : Grow wx W) => ids_r (hr2.grow g) hL2)
        have HW1 := hide (fun (W : World) (g : Grow wx W) => words_gs (hg2.grow g) hL2)
        have HW2 := hide (fun (W : World) (g : Grow wx W) => words_r (hr2.grow g) hg2.lok hL2)
        obtain ⟨n2, hn3⟩ : ∃ n2, L2.length = n2 := ⟨_, rfl⟩
        obtain ⟨ws, hws⟩ : ∃ ws, wos L2 = ws := ⟨_, rfl⟩
        rw [hn3] at HI1 HI2
        rw [hws] at HW1 HW2
        rw [hn3] at hL2
        have HL2 := hide hL2
        clear hg2 hr2 hn2 hn3 hws HCZ2 hL2
        go_wp2_with fail
        refine HSAME.out.mono ?_
        rintro e w5 ⟨rfl, c5⟩
        clear y1
        go_wp2_with fail
        refine (HI1.out _ c5).mono ?_
        rintro e w6 ⟨ia, ic, rfl, hrow, c6⟩
        have c56 := c5.trans c6
        have HROW := hide hrow
        clear hrow
        go_wp2_with fail
        refine (HI2.out _ c56).mono ?_
        rintro e w7 ⟨ja, jc, rfl, hrow2, c7⟩
        have c57 := c56.trans c7
        have HRD1 := hide (own_rd (own_grow HROW.out c7))
        have HRD2 := hide (own_rd hrow2)
        clear hrow2 HROW c56 c5 c6 c7
        go_wp2_with fail
        refine (L1.same_yes _ _ _ _ _ _ _ HRD1.out HRD2.out (by have := HL2.out; omega)).mono ?_
        rintro e w8 ⟨rfl, c8⟩
        have c58 := c57.trans c8
        clear c57 c8 HRD1 HRD2
        go_wp2_with fail
        refine (HW1.out _ c58).mono ?_
        rintro e w9 ⟨rfl, c9⟩
        have c59 := c58.trans c9
        clear c58 c9
        go_wp2_with fail
        refine (HW2.out _ c59).mono ?_
        rintro e w10 ⟨rfl, c10⟩
        have q9 : ((ws : Int) != (ws : Int)) = false := bne_self_eq_false _
        have HN := hide (H1.out.grow (c59.trans c10))
        clear c59 c10
        go_wp2
        go_roundw
        case rel => exact ⟨k + 1, L2, HK.out, rfl, HN.out⟩
        case measure => have := HK.out; simp [Go.RowKit.intOf]; omega
      · as_aux_lemma =>
        have e1 : (K == 1) = false := by simpa using k1
        have e2 : (K == 2) = false := by simpa using k2
        have e3 : (K == 3) = false := by simpa using k3
        have e4 : (K == 4) = false := by simpa using k4
        have e5 : (K == 5) = false := by simpa using k5
        clear k1 k2 k3 k4 k5
        go_wp2_with fail
        generalize wr.alloc (.cells #[.int .i64 K, .int .i64 A, .int .i64 B, .int .i64 C, .slice la ll lc] 39) = wo at *
        generalize wr.heap.size = ob at *
        clear x0 x1 x2 x3 x4
        have y1 : wo.cell? ⟨ob, 1, none⟩ = some (.int .i64 A) := HOB.out.cell 1
        have H1 := hide (Inv.mk (n := k + 1) ⟨S0, T, HG0.out, HR2.out, HD.out⟩ (by have := HN2.out; omega) HC2.out)
        clear e1 e2 e3 e4 e5 HRR HSO HTO HD HG0 HG2 HR2 HROW HLL HN2 HC2 HL HB HC HOPS HOB
        generalize wo = wx at *
        generalize L = L2 at *
        -- H1 : Hid (Inv w wx z p q (.slice a len cap) cs (k + 1) L2); y1 : wx.cell? ⟨ob, 1, none⟩ = some (.int .i64 A)
        obtain ⟨S2, T2, hg2, hr2, -⟩ := H1.out.bo
        have hn2 := H1.out.n
        have HCZ2 := hide (HCL.out.chg H1.out.cz fun i hi h => by have := HZ.out.1; omega)
        have hL2 : L2.length < 1000000 := by have := HK.out; have := HLN.out; omega
        have HSAME := hide (same_g hg2 hr2 HCZ2.out HALL.out hL2 (by have := HLEN.out; omega) HA.out)
        have HI1 := hide (fun (W : World) (g : Grow wx W) => ids_gs (hg2.grow g) hL2)
        have HI2 := hide (fun (W : World) (g : Grow wx W) => ids_r (hr2.grow g) hL2)
        have HW1 := hide (fun (W : World) (g : Grow wx W) => words_gs (hg2.grow g) hL2)
        have HW2 := hide (fun (W : World) (g : Grow wx W) => words_r (hr2.grow g) hg2.lok hL2)
        obtain ⟨n2, hn3⟩ : ∃ n2, L2.length = n2 := ⟨_, rfl⟩
        obtain ⟨ws, hws⟩ : ∃ ws, wos L2 = ws := ⟨_, rfl⟩
        rw [hn3] at HI1 HI2
        rw [hws] at HW1 HW2
        rw [hn3] at hL2
        have HL2 := hide hL2
        clear hg2 hr2 hn2 hn3 hws HCZ2 hL2
        go_wp2_with fail
        refine HSAME.out.mono ?_
        rintro e w5 ⟨rfl, c5⟩
        clear y1
        go_wp2_with fail
        refine (HI1.out _ c5).mono ?_
        rintro e w6 ⟨ia, ic, rfl, hrow, c6⟩
        have c56 := c5.trans c6
        have HROW := hide hrow
        clear hrow
        go_wp2_with fail
        refine (HI2.out _ c56).mono ?_
        rintro e w7 ⟨ja, jc, rfl, hrow2, c7⟩
        have c57 := c56.trans c7
        have HRD1 := hide (own_rd (own_grow HROW.out c7))
        have HRD2 := hide (own_rd hrow2)
        clear hrow2 HROW c56 c5 c6 c7
        go_wp2_with fail
        refine (L1.same_yes _ _ _ _ _ _ _ HRD1.out HRD2.out (by have := HL2.out; omega)).mono ?_
        rintro e w8 ⟨rfl, c8⟩
        have c58 := c57.trans c8
        clear c57 c8 HRD1 HRD2
        go_wp2_with fail
        refine (HW1.out _ c58).mono ?_
        rintro e w9 ⟨rfl, c9⟩
        have c59 := c58.trans c9
        clear c58 c9
        go_wp2_with fail
        refine (HW2.out _ c59).mono ?_
        rintro e w10 ⟨rfl, c10⟩
        have q9 : ((ws : Int) != (ws : Int)) = false := bne_self_eq_false _
        have HN := hide (H1.out.grow (c59.trans c10))
        clear c59 c10
        go_wp2
        go_roundw
        case rel => exact ⟨k + 1, L2, HK.out, rfl, HN.out⟩
        case measure => have := HK.out; simp [Go.RowKit.intOf]; omega
theorem walk (a : Option Addr) (len cap : Nat) (cs : List Cl) (a1 : Option Addr) (len1 cap1 : Nat) (l : List Oq) (w : World) (hc : IsCls w a len cap cs) (ho : IsOps w a1 len1 cap1 l) :
    Calls Try.prog 3 #[.slice a len cap, .slice a1 len1 cap1] w fun e w' => e = .returned (.bool true) ∧ Below w.heap.size w w' := by
  by_cases h : fewB l = true ∧ len ≤ 100 ∧ newX cs = 0
  · exact walk_main hc ho h.1 h.2.1 h.2.2
  · exact walk_no hc ho h
end

theorem own : ownKnob Try.prog.godebug = none := by kernel_rfl
theorem laidOut : laidOutB Try.prog = true := by kernel_rfl

set_option maxRecDepth 100000 in
theorem lifted (os : Os) (started : os.Started) (H : Type) (enc : TypeId × Value → H) :
    ReturnsInHanded {} Try.checked os 3 .any (Rows.graphPlaysSpec.pre6 enc Try.prog Try.f3 Rows.graphPlaysRow.domain false) (Rows.graphPlaysSpec.post enc Try.prog Try.f3 false true false false) := by
  refine returnsInHanded_of_change (C := Try.checked) own started (by kernel_rfl) Try.func3
    (ChangeSpec.witness6 (enc := enc) (C := Try.checked) false ⟨#[], #[.slice none 0 0, .slice none 0 0], []⟩ 8 (by kernel_rfl) (by kernel_rfl) (by kernel_rfl) (by kernel_rfl)) ?_
  intro W base args ds gs before hval0 hW hcnd _
  have hval : ∀ (j : Nat) t v, Try.f3.params[j]? = some t → args[j]? = some v → Value.okWide Try.prog W .any base t v := hval0
  have hW' := hW
  obtain ⟨p, q, hA0, hV, rfl, hfz, hnd⟩ := hW
  have hA : DataW.TrodAll enc Try.prog W 0 (fun _ => true) true Try.f3.params.toList args.toList ds p := hA0
  rw [Try.params3] at hA hval
  obtain ⟨v0, vs0, d0, ds0, p0, q0, hargs, rfl, rfl, h0, r0⟩ := trodAll_cons hA
  obtain ⟨v1, vs1, d1, ds1, p1, q1, rfl, rfl, rfl, h1, r1⟩ := trodAll_cons r0
  obtain ⟨rfl, rfl, rfl⟩ := trodAll_nil r1
  obtain rfl : args = #[v0, v1] := by cases args; simp_all
  obtain ⟨rfl, rfl⟩ := trodVars_none hV
  have k0 := h0
  have lt0 : ∀ x ∈ p0, x.block < W.heap.size := by obtain ⟨m, hm⟩ := k0; exact DataW.trod_lt m _ _ _ hm
  obtain ⟨a0, len0, cap0, cs0, rfl, w0⟩ := L5.open_cls (hval 0 22 v0 rfl rfl) h0
  have k1 := h1
  have lt1 : ∀ x ∈ p1, x.block < W.heap.size := by obtain ⟨m, hm⟩ := k1; exact DataW.trod_lt m _ _ _ hm
  obtain ⟨a1, len1, cap1, l1, rfl, w1⟩ := open_ops (hval 1 23 v1 rfl rfl) h1
  clear hA0 hval0
  refine (walk a0 len0 cap0 cs0 a1 len1 cap1 l1 W w0 w1).mono fun e W' ⟨he, bel⟩ => ?_
  subst he
  exact ⟨_, rfl, _, _, _, [], _, [], hW', trodAll_mk1 (shut_bool Try.underlying4 _), (trodAll_cons_mk (Below.trod laidOut (by kernel_rfl) (of_decide_eq_true (by kernel_rfl)) k0 bel lt0) (trodAll_cons_mk (Below.trod laidOut (by kernel_rfl) (of_decide_eq_true (by kernel_rfl)) k1 bel lt1) trodAll_mk0)), rfl, bel.frame _, fun h => by cases h⟩

theorem over : Rows.graphPlaysRow.holds Try.pinned (OpenSpec.ofChange Rows.graphPlaysSpec) :=
  OpenClaim.holds_of_wide 3 Try.f3 rfl rfl rfl rfl rfl rfl rfl ⟨rfl, rfl, rfl, rfl, rfl⟩ rfl rfl rfl rfl rfl (by kernel_rfl) Try.func3 (by kernel_rfl)
    (of_decide_eq_true (by kernel_rfl)) (by unfold Func.isWrapper; first | (rw [if_pos (by decide +kernel)]; kernel_rfl) | (rw [if_neg (by decide +kernel)]; exact ⟨rfl, rfl⟩))
    (fun os started H enc _ => lifted os started H enc)

/-- The statement. -/
theorem proved : Rows.GraphPlaysSaid := over
#print axioms proved
end Go.Proofs.Ytcinielgigdhmaa.graphPlays

