/- For all classes, calls and numbers GraphOwn answers true: a node that is told is memory of its own; each reference of a node is its aim, or is held, or is 0. Conditions: none. -/
import Derived.Test.YtcinielgigdhmaaL9Start
import Derived.Test.YtcinielgigdhmaaL9Tn
namespace Go.Proofs.Ytcinielgigdhmaa.graphOwn
open Go.ChangeShapes Go.WideShapes Go.ChangeAt Go.RowKit Go.Proofs.Ytcinielgigdhmaa.L9
open Go.Proofs.Ytcinielgigdhmaa.L5 (Cl clAt IsCls newX isRf)
set_option linter.unusedVariables false
/-- append, by what it comes to. -/
theorem wpList_app {P : Program} {ops : Array Oper} {rest : List Oper} {o : Oper} {a : Act} {Q : Exit → Act → World → Prop} (hgd : o.guard = none) (s x : Operand) (t : TypeId)
    (ho : o.op = .call { callee := .builtin .append, args := #[s, x], argTypes := #[t, t] }) (v1 v2 v' : Value) (w w' : World) (hs : a.eval s = v1) (hx : a.eval x = v2)
    (hr : (Builtin.append_ #[t, t] o.type #[v1, v2]).run P w = .ok v' w') (h : wpList P ops Q rest (a.put o.dst v') w') : wpList P ops Q (o :: rest) a w := by
  refine wpList_plain hgd fun K hK => ?_
  unfold Oper.wp
  simp [execOp, ho, resolve, invoke, builtin, hs, hx, hr, Result.andThen]
  exact hK _ _ h
/-- A row of its own, copied onto an empty one. -/
theorem app_copy {W : World} {lo : Nat} {a : Option Addr} {n c : Nat} {xs : List Int} (h : W.ownsRow lo 3 1 (.slice a n c) n (ints xs)) (hn : n ≤ 1000) :
    ∃ ga gc w', (Builtin.append_ #[37, 37] 37 #[.slice (some ⟨W.heap.size, 0, none⟩) 0 0, .slice a n c]).run Try.prog (W.alloc (.cells #[] 3)) = .ok (.slice ga n gc) w' ∧
      w'.ownsRow W.heap.size 3 1 (.slice ga n gc) n (ints xs) ∧ Grow W w' := by
  obtain ⟨i0, hi0, hz0, hz1, hz2⟩ := info_parts Try.infoI
  have ho := World.ownsRow_lit (e := 3) (size := 1) (base := W.heap.size) W #[] 0 (Nat.le_refl _) (by simp [maxLen]) rfl
  have hl : xs.length = n := by have := h.1; rw [ints_length] at this; omega
  have h' := h.2
  rcases h' with ⟨e, h0⟩ | ⟨g, cap, cur, e, _, _, h1, h2, _⟩
  · injection e with e1 e2 e3
    subst e1 e2 e3
    have : xs = [] := List.eq_nil_of_length_eq_zero hl
    subst this
    exact ⟨_, _, _, run_append_owned_none _ W.heap.size 37 _ 3 i0 1 Try.underlying37 hi0 _ 0 _ ho, ho, Grow.box _ _⟩
  · injection e with e1 e2 e3
    subst e1
    obtain ⟨v', w', hr, hown, hgrow, -⟩ := run_append_own (P := Try.prog) (W.alloc (.cells #[] 3)) W.heap.size 37 37 3 i0 (.int .i64 0) 1 8 Try.underlying37 hi0 hz0 hz1 hz2 rfl (by decide)
      _ 0 _ ho ⟨g, 0, none⟩ n c (ints xs) (by rw [ints_length, hl, Nat.mul_one]) (fun j u hj => by
        have hj' : j < n := by have := (List.getElem?_eq_some_iff.1 hj).1; rw [ints_length] at this; omega
        refine Grow.cell (Grow.box _ _) ?_
        rw [addr_add, Nat.zero_add, h.cellAt _ (by omega)]
        exact hj) (fun u hu => by obtain ⟨z, _, rfl⟩ := List.mem_map.1 hu; rfl) (by unfold maxLen; omega) (by omega) (by simp)
    rw [Nat.zero_add] at hown
    obtain ⟨ga, gc, rfl⟩ := own_len hown
    exact ⟨ga, gc, w', hr, by simpa using hown, Chg.grownOwn (Grow.box _ _) ho (Nat.le_refl _) hgrow⟩
theorem hld_full (r : Bool) (l : List Int) : hld r (l.take l.length) = hld r l := by rw [List.take_length]
section
variable {w : World} {a a1 : Option Addr} {len cap len1 cap1 : Nat} {cs : List Cl} {l : List Oq} {x : Int}
set_option maxRecDepth 100000 in
set_option maxHeartbeats 2000000 in
theorem walk_no (hc : IsCls w a len cap cs) (ho : IsOps w a1 len1 cap1 l) (hn : ¬ (fewB l = true ∧ len ≤ 100 ∧ newX cs = 0)) :
    Calls Try.prog 5 #[.slice a len cap, .slice a1 len1 cap1, .int .i64 x] w fun e w' => e = .returned (.bool true) ∧ Below w.heap.size w w' := by
  cases hfl : fewB l with
  | false =>
    have HFL := hide hfl
    clear hn
    have HCL := hide hc
    have HOPS := hide ho
    have cc := Chg.refl (fun _ => False) w
    clear hc ho
    go_enter Try.func5, Try.ntmps5
    go_wp2_with fail
    refine (awake_any _).mono ?_
    rintro e w1 ⟨rfl, c1⟩
    replace cc := cc.trans c1
    clear c1
    go_wp2_with fail
    refine (few_any (HOPS.out.chg cc fun _ _ => id)).mono ?_
    rintro e w' ⟨rfl, rfl⟩
    rw [HFL.out]
    go_wp2_with fail
    refine (awake_any _).mono ?_
    rintro e w9 ⟨rfl, c9⟩
    go_wp2
    go_ret
    exact ⟨rfl, (cc.trans c9).below (fun _ _ h => h) (Nat.le_refl _)⟩
  | true =>
    have HFL := hide hfl
    by_cases hl : 100 < len
    · have q1 : decide ((len : Int) > 100) = true := by simp; omega
      clear hn
      have HCL := hide hc
      have HOPS := hide ho
      have cc := Chg.refl (fun _ => False) w
      clear hc ho
      go_enter Try.func5, Try.ntmps5
      go_wp2_with fail
      refine (awake_any _).mono ?_
      rintro e w1 ⟨rfl, c1⟩
      replace cc := cc.trans c1
      clear c1
      go_wp2_with fail
      refine (few_any (HOPS.out.chg cc fun _ _ => id)).mono ?_
      rintro e w' ⟨rfl, rfl⟩
      rw [HFL.out]
      go_wp2_with fail
      refine (awake_any _).mono ?_
      rintro e w9 ⟨rfl, c9⟩
      go_wp2
      go_ret
      exact ⟨rfl, (cc.trans c9).below (fun _ _ h => h) (Nat.le_refl _)⟩
    · have q1 : decide ((len : Int) > 100) = false := by simp; omega
      replace hl : len ≤ 100 := by omega
      obtain ⟨X, hX⟩ : ∃ X, newX cs = X := ⟨_, rfl⟩
      have hX0 : X ≠ 0 := fun e => hn ⟨hfl, hl, by rw [hX, e]⟩
      have q2 : (X != 0) = true := by simpa using hX0
      have HNX := hide hX
      clear hn hX hX0
      have HCL := hide hc
      have HOPS := hide ho
      have cc := Chg.refl (fun _ => False) w
      clear hc ho
      go_enter Try.func5, Try.ntmps5
      go_wp2_with fail
      refine (awake_any _).mono ?_
      rintro e w1 ⟨rfl, c1⟩
      replace cc := cc.trans c1
      clear c1
      go_wp2_with fail
      refine (few_any (HOPS.out.chg cc fun _ _ => id)).mono ?_
      rintro e w' ⟨rfl, rfl⟩
      rw [HFL.out]
      go_wp2_with fail
      refine (L5.rnew_any _ _ _ _ _ (HCL.out.chg cc fun _ _ => id) hl).mono ?_
      rintro e w3 ⟨rfl, c3⟩
      rw [HNX.out]
      replace cc := cc.trans c3
      
      go_wp2_with fail
      refine (awake_any _).mono ?_
      rintro e w9 ⟨rfl, c9⟩
      go_wp2
      go_ret
      exact ⟨rfl, (cc.trans c9).below (fun _ _ h => h) (Nat.le_refl _)⟩
theorem hld_t1 (l : List Int) : hld true (l.take 1) = [] := by cases l <;> rfl
theorem hld_t0 (l : List Int) : hld false (l.take 0) = [] := rfl
set_option maxRecDepth 100000 in
set_option maxHeartbeats 20000000 in
theorem walk_main (hc : IsCls w a len cap cs) (ho : IsOps w a1 len1 cap1 l) (hfl : fewB l = true) (hl : len ≤ 100) (hX : newX cs = 0) :
    Calls Try.prog 5 #[.slice a len cap, .slice a1 len1 cap1, .int .i64 x] w fun e w' => e = .returned (.bool true) ∧ Below w.heap.size w w' := by
  have HFL := hide hfl
  have HNX := hide hX
  have q1 : decide ((len : Int) > 100) = false := by simp; omega
  clear hfl hX
  obtain ⟨i0, hi0, hz0, hz1, hz2⟩ := info_parts Try.infoI
  have HI := hide hi0
  have HZ0 := hide hz0
  have HZ1 := hide hz1
  have HZ2 := hide hz2
  clear hi0 hz0 hz1 hz2
  have HCL := hide hc
  have HOPS := hide ho
  have cc := Chg.refl (fun _ => False) w
  clear hc ho
  go_enter Try.func5, Try.ntmps5
  go_wp2_with fail
  refine (awake_any _).mono ?_
  rintro e w1 ⟨rfl, c1⟩
  replace cc := cc.trans c1
  clear c1
  go_wp2_with fail
  refine (few_any (HOPS.out.chg cc fun _ _ => id)).mono ?_
  rintro e w' ⟨rfl, rfl⟩
  rw [HFL.out]
  go_wp2_with fail
  refine (L5.rnew_any _ _ _ _ _ (HCL.out.chg cc fun _ _ => id) hl).mono ?_
  rintro e w3 ⟨rfl, c3⟩
  rw [HNX.out]
  replace cc := cc.trans c3
  
  clear c3
  go_wp2_with fail
  refine (new_tz (HCL.out.chg cc fun _ _ => id) hl HNX.out).mono ?_
  rintro e w4 ⟨tb, rfl, ht, c4⟩
  obtain ⟨z, hz⟩ : ∃ z, w4.heap.size = z := ⟨_, rfl⟩
  rw [hz] at ht
  have HZ := hide (And.intro (show w.heap.size ≤ z by rw [← hz]; exact Nat.le_trans cc.size c4.size) (Nat.le_of_eq hz.symm))
  have cz : Chg (fun k => w.heap.size ≤ k) w w4 := (cc.trans c4).mono fun _ _ h => h.elim
  clear cc
  clear c4 hz q1
  go_wp2_with fail
  refine (new_gr ht HZ.out.2).mono ?_
  rintro e w5 ⟨p, S, rfl, c5, hg, hs⟩
  replace cz := cz.step c5 fun _ _ h => h.elim
  have HG := hide hg
  have HLN := hide (And.intro HOPS.out.1 (fewB_ll HFL.out))
  clear hg c5 hs ht
  go_wp2_with fail
  refine (play_any HG.out HOPS.out cz HZ.out.1 (by simp) (by have := HLN.out; omega)).mono ?_
  rintro e w6 ⟨rfl, S1, hg1, c6, -⟩
  replace cz := cz.step c6 fun i _ h => Nat.le_trans HZ.out.1 (HG.out.s h).1
  have HLB := hide (pl_bd (cs := cs) HFL.out)
  generalize plL cs [] l = L at *
  replace HG := hide hg1
  clear c6 hg1 HLN HOPS HFL HCL HNX
  go_wp2_with fail
  refine (ids_gs HG.out (by have := HLB.out; omega)).mono ?_
  rintro e w7 ⟨ia, ic, rfl, hrow, c7⟩
  replace cz := cz.step c7 fun _ _ h => h.elim
  replace HG := hide (HG.out.grow c7)
  obtain ⟨n, hn⟩ : ∃ n, L.length = n := ⟨_, rfl⟩
  rw [hn] at hrow HLB
  rw [hn]
  have HROW := hide hrow
  have HCZ := hide cz
  have HN := hide hn
  clear hrow cz c7 hn
  go_wp2_with fail
  go_loopw [58] (fun i wr => ∃ j : Nat, j ≤ n ∧ i = .int .i64 j ∧ Grow w7 wr) (fun i _ => n - (Go.RowKit.intOf i).toNat)
  case atStart => exact ⟨0, Nat.zero_le _, rfl, Chg.refl _ _⟩
  case round =>
    obtain ⟨j, hj, rfl, gg⟩ := hrel
    rcases Nat.eq_or_lt_of_le hj with rfl | hlt
    · have q2 : decide ((j : Int) < j) = false := by simp
      go_wp2
      go_ret
      exact ⟨rfl, (HCZ.out.step gg fun _ _ h => h.elim).below (fun i hi h => by omega) (Nat.le_refl _)⟩
    · as_aux_lemma =>
      have q2 : decide ((j : Int) < n) = true := by simp; omega
      obtain ⟨y, hyj⟩ : ∃ x, L[j]? = some x := ⟨_, List.getElem?_eq_getElem (by rw [HN.out]; exact hlt)⟩
      have hym := List.mem_of_getElem? hyj
      have hnd := nd_mem HG.out.srt hym
      have hok := HG.out.ok hym
      obtain ⟨gi, hia, -, hgi, -, hcj⟩ := own_at (own_grow HROW.out gg) hlt
      rw [show (L.map Nd.id).getD j 0 = y.id by simp [List.getD_eq_getElem?_getD, hyj]] at hcj
      subst hia
      obtain ⟨xi, xc, xr, xd, xf⟩ := y
      dsimp only at hcj hnd
      obtain ⟨n1, h1⟩ : ∃ n1, xr.length = n1 := ⟨_, rfl⟩
      obtain ⟨m1, h2⟩ : ∃ m1, xd.length = m1 := ⟨_, rfl⟩
      have hid : In64 xi := hok.id2
      have hrl : n1 ≤ 30 := by have := hok.rl; simp at this; omega
      have hdl : m1 ≤ 30 := by have := hok.dl; simp at this; omega
      obtain ⟨c, hcl, hcp⟩ := hok.cl
      obtain ⟨kk, hkk⟩ : ∃ kk, c.k = kk := ⟨_, rfl⟩
      rw [hkk] at hcp
      obtain ⟨r, hr⟩ : ∃ r, isRf kk = r := ⟨_, rfl⟩
      have hax : aimX cs L xi = if r = true then (xr.getD 0 0, kk) else (0, 0) := by
        unfold aimX
        rw [hnd]
        dsimp only at hcl ⊢
        rw [hcl]
        simp only [L9.kd, hkk, hr]
      have hhx : hldX cs L xi = hld r xr := by
        unfold hldX
        rw [hnd]
        dsimp only at hcl ⊢
        rw [hcl]
        simp only [L9.kd, hkk, hr]
      have HAX := hide hax
      have HKD := hide (show r = true → kk ≠ 0 ∧ 0 < n1 from fun h => by
        rw [h] at hr
        refine ⟨fun e => ?_, by have := hcp hr; rw [← h1]; exact this⟩
        subst e
        simp [isRf] at hr)
      have hh := fun (W : World) (g : Grow w7 W) => holds_gs (HG.out.grow g) hid
      simp only [hhx] at hh
      have HHO := hide hh
      have HAIM := hide (fun (W : World) (g : Grow w7 W) => aim_gs (HG.out.grow g) hid)
      have HLEN := hide (And.intro h1 (And.intro (show n1 ≤ 1000000 by omega) (show m1 ≤ 1000000 by omega)))
      have HR30 := hide hrl
      have HK := hide hlt
      have HND := hide (fun (W : World) (g : Grow w7 W) => node_tn (HG.out.grow g) hid hnd h1 h2)
      have hw : IntKind.i64.wrap ((j : Int) + 1) = ((j + 1 : Nat) : Int) := (IntWalk.i64_in _ (by have := HLB.out; omega)).trans (by omega)
      clear hj hlt hyj hym hnd hok h1 h2 hid hrl hdl hcl hcp hkk hr hax hhx hh
      go_wp2_with fail
      refine (HND.out _ gg).mono ?_
      rintro e wa ⟨ar, car, ad, cad, rfl, ca, ta⟩
      have gA := ca.alloc (.cells #[.int .i64 xi, .int .i64 xc, .slice ar n1 car, .slice ad m1 cad, .bool xf] 45)
      have sA : (wa.alloc (.cells #[.int .i64 xi, .int .i64 xc, .slice ar n1 car, .slice ad m1 cad, .bool xf] 45)).heap.size = wa.heap.size + 1 := by simp
      obtain ⟨ga, gc, wc, kA, hrf, cR⟩ := app_copy ta.r (by have := HR30.out; omega)
      rw [sA] at kA hrf
      have y2 := Grow.cell (Grow.box (wa.alloc (.cells #[.int .i64 xi, .int .i64 xc, .slice ar n1 car, .slice ad m1 cad, .bool xf] 45)) (.cells #[] 3)) ta.cells.2.2.1
      have KA := hide kA
      have HSA := hide (show gi < wr.heap.size ∧ wr.heap.size ≤ wa.heap.size + 1 ∧ wa.heap.size + 1 ≤ wc.heap.size ∧ w7.heap.size ≤ wr.heap.size from ⟨hgi, by rw [← sA]; exact gA.size, by rw [← sA]; exact cR.size, gg.size⟩)
      replace ta := ta.grow cR
      replace hcj := Grow.cell (gA.trans cR) hcj
      replace gg := (gg.trans gA).trans cR
      have HRL := hide (show ∀ k, (Value.slice ga n1 gc).ownBlock = some k → k < wc.heap.size from fun k hk => (hrf.lt k hk).2)
      clear ca gA sA kA hgi cR
      go_wp2_with (at_builtin; refine wpList_app rfl _ _ 37 rfl (.slice (some ⟨wa.heap.size + 1, 0, none⟩) 0 0) (.slice ar n1 car) (.slice ga n1 gc) _ wc rfl rfl KA.out ?_)
      clear y2 KA
      generalize wa.heap.size = tA at *
      refine (HND.out _ gg).mono ?_
      rintro e wd ⟨br, cbr, bd, cbd, rfl, cb, tb⟩
      have gB := cb.alloc (.cells #[.int .i64 xi, .int .i64 xc, .slice br n1 cbr, .slice bd m1 cbd, .bool xf] 45)
      have HTA := hide (ta.grow gB)
      have HRF := hide (own_grow hrf gB)
      have HCJ := hide (Grow.cell gB hcj)
      have HGG := hide (gg.trans gB)
      have HTB := hide tb
      have y2 := tb.cells.2.2.1
      clear cb gB ta hrf hcj gg tb
      go_wp2_with fail
      clear y2
      generalize wd.alloc (.cells #[.int .i64 xi, .int .i64 xc, .slice br n1 cbr, .slice bd m1 cbd, .bool xf] 45) = wB at *
      generalize wd.heap.size = tB at *
      obtain ⟨lo2, hlo2⟩ : ∃ lo2, wc.heap.size = lo2 := ⟨_, rfl⟩
      rw [hlo2] at HRL HSA HTB
      obtain ⟨lo1, hlo1⟩ : ∃ lo1, wr.heap.size = lo1 := ⟨_, rfl⟩
      rw [hlo1] at HSA HTA
      have HSZ := hide (show gi < lo2 ∧ tA + 1 ≤ lo2 ∧ w7.heap.size ≤ lo2 by have := HSA.out; omega)
      have HCB := hide (Chg.refl (fun i => lo2 ≤ i) wB)
      clear hlo1 hlo2 HSA
      go_loopw [86] (fun v wr => ∃ (k : Nat) (rs ds : List Int), k ≤ n1 ∧ v = .int .i64 k ∧ Chg (fun i => lo2 ≤ i) wB wr ∧ Tn wr tB xi xc xf n1 m1 br cbr bd cbd rs ds lo2 (tB + 1)) (fun v _ => n1 - (Go.RowKit.intOf v).toNat)
      case atStart => exact ⟨0, _, _, Nat.zero_le _, rfl, HCB.out, HTB.out⟩
      case round =>
        clear HCB HTB
        obtain ⟨k, rs, ds, hk, rfl, cB, tb⟩ := hrel
        rcases Nat.eq_or_lt_of_le hk with hke | hlt
        · have hke' : n1 = k := hke.symm
          subst hke'
          have q3 : decide ((n1 : Int) < n1) = false := by simp
          clear hk hke
          have HCB := hide cB
          have HTB := hide tb
          clear cB tb
          have y2 := HTB.out.cells.2.2.2.1
          go_wp2_with fail
          clear y2 q3
          go_loopw [98] (fun v wr => ∃ (k : Nat) (rs ds : List Int), k ≤ m1 ∧ v = .int .i64 k ∧ Chg (fun i => lo2 ≤ i) wB wr ∧ Tn wr tB xi xc xf n1 m1 br cbr bd cbd rs ds lo2 (tB + 1)) (fun v _ => m1 - (Go.RowKit.intOf v).toNat)
          case atStart => exact ⟨0, _, _, Nat.zero_le _, rfl, HCB.out, HTB.out⟩
          case round =>
            clear HCB HTB
            obtain ⟨k, rs, ds, hk, rfl, cB, tb⟩ := hrel
            rcases Nat.eq_or_lt_of_le hk with hke | hlt
            · have hke' : m1 = k := hke.symm
              subst hke'
              have q3 : decide ((m1 : Int) < m1) = false := by simp
              clear hk hke
              have HCB := hide cB
              have HTB := hide tb
              clear cB tb
              have gE : Grow w7 wr := HGG.out.step HCB.out (fun i hi h => by have := HSZ.out; omega)
              have taE := HTA.out.chg HCB.out (fun k h1 h2 h => by have := HSZ.out; omega)
              have hrE := own_chg HRF.out HCB.out (fun k hk h => by have := HRL.out k hk; omega)
              have hcE := Chg.cell HCB.out HCJ.out (fun h => by have h' : lo2 ≤ gi := h; have := HSZ.out; omega)
              clear HCB HTB HTA HRF HCJ HGG
              go_wp2_with fail
              clear q3
              refine (HND.out _ gE).mono ?_
              rintro e wf ⟨er, cer, ed, ced, rfl, cf, tc⟩
              have gC := cf.alloc (.cells #[.int .i64 xi, .int .i64 xc, .slice er n1 cer, .slice ed m1 ced, .bool xf] 45)
              have taF := taE.grow gC
              have HRE := hide (own_grow hrE gC)
              have HCE := hide (Grow.cell gC hcE)
              have HGF := hide (gE.trans gC)
              have HSM := hide (same_tn tc taF HLEN.out.2.1 HLEN.out.2.2)
              obtain ⟨c0, c1, c2, c3, c4⟩ := tc.cells
              obtain ⟨a0, a1', a2, a3, a4⟩ := taF.cells
              clear cf gC taF taE hrE hcE gE tc
              go_wp2_with fail
              clear c0 c1 c2 c3 c4 a0 a1' a2 a3 a4
              generalize wf.alloc (.cells #[.int .i64 xi, .int .i64 xc, .slice er n1 cer, .slice ed m1 ced, .bool xf] 45) = wF at *
              generalize wf.heap.size = tC at *
              refine HSM.out.mono ?_
              rintro e wg ⟨rfl, cg⟩
              replace HRE := hide (own_grow HRE.out cg)
              have hcj := Grow.cell cg HCE.out
              replace HGF := hide (HGF.out.trans cg)
              clear cg HSM HCE
              go_wp2_with fail
              refine (HAIM.out _ HGF.out).mono ?_
              rintro e wh ⟨rfl, ch⟩
              rw [HAX.out]
              dsimp only
              have HRH := hide (own_grow HRE.out ch)
              have HCH := hide (Grow.cell ch hcj)
              have HGH := hide (HGF.out.trans ch)
              clear ch HRE HGF hcj
              cases r with
              | true =>
                have hk0 := HKD.out rfl
                have q4 : (kk != 0) = true := by simpa using hk0.1
                have q5 : ((n1 : Int) == 0) = false := by simp; omega
                obtain ⟨g0, hg0, -, -, -, yk⟩ := own_at HRH.out hk0.2
                subst hg0
                have hpos := hk0.2
                have HPOS := hide hpos
                obtain ⟨u, hu⟩ : ∃ u, xr.getD 0 0 = u := ⟨_, rfl⟩
                rw [hu] at yk
                simp only [if_true, hu]
                have q6 : (u != u) = false := bne_self_eq_false _
                clear hk0 hu
                go_wp2_with fail
                clear q4 q5 q6 yk hpos
                generalize hwh : wh.heap.size = loH at *
                go_loopw [24, 25] (fun v c wr => ∃ k : Nat, 1 ≤ k ∧ k ≤ n1 ∧ c = .int .i64 k ∧ wr.ownsRow loH 3 1 v (hld true (xr.take k)).length (ints (hld true (xr.take k))) ∧ Grow wh wr) (fun _ c _ => n1 - (Go.RowKit.intOf c).toNat)
                case atStart => exact ⟨1, Nat.le_refl _, HPOS.out, rfl, by rw [hld_t1]; exact World.ownsRow_nil _ _ _ _, Chg.refl _ _⟩
                case round =>
                  obtain ⟨k, hfk, hk, rfl, hown, gH⟩ := hrel
                  rcases Nat.eq_or_lt_of_le hk with hke | hlt
                  · have hke' : n1 = k := hke.symm
                    subst hke'
                    have q7 : decide ((n1 : Int) < (n1 : Int)) = false := by simp
                    rw [show xr.take n1 = xr by rw [← HLEN.out.1, List.take_length]] at hown
                    obtain ⟨va, vc, rfl⟩ := own_len hown
                    have HOW := hide hown
                    have hcj := Grow.cell gH HCH.out
                    have HGI2 := hide (HGH.out.trans gH)
                    clear hfk hk hke hown gH
                    go_wp2_with fail
                    refine (HHO.out _ HGI2.out).mono ?_
                    rintro e wi ⟨ha, hcap, rfl, hrow2, ci⟩
                    have HR1 := hide (own_rd (own_grow HOW.out ci))
                    have HR2 := hide (own_rd hrow2)
                    have gI := HGI2.out.trans ci
                    clear hrow2 ci HOW HGI2 hcj
                    go_wp2_with fail
                    refine (L1.same_yes _ _ _ _ _ _ _ HR1.out HR2.out (by have := hld_len true xr; have := HLEN.out; omega)).mono ?_
                    rintro e wk ⟨rfl, ck⟩
                    have gK := gI.trans ck
                    clear gI ck
                    go_wp2
                    go_roundw
                    case rel => exact ⟨j + 1, HK.out, rfl, gK⟩
                    case measure => have := HK.out; simp [Go.RowKit.intOf]; omega
                  · have q7 : decide ((k : Int) < (n1 : Int)) = true := decide_eq_true (by omega)
                    obtain ⟨g1, hg1, -, -, -, yk⟩ := own_at (own_grow HRH.out gH) hlt
                    have hw7 : IntKind.i64.wrap ((k : Int) + 1) = ((k + 1 : Nat) : Int) := (IntWalk.i64_in _ (by have := HLEN.out; omega)).trans (by omega)
                    have HST := hide (hld_step true xr k (by rw [HLEN.out.1]; exact hlt))
                    have HLE := hide (show (hld true (xr.take k)).length ≤ 1000000 by have := hld_len true (xr.take k); have := HLEN.out; simp at *; omega)
                    have HKK := hide (And.intro hlt hfk)
                    obtain ⟨q, hq⟩ : ∃ q, xr.getD k 0 = q := ⟨_, rfl⟩
                    rw [hq] at yk HST
                    obtain ⟨xs, hxs⟩ : ∃ xs, xs = hld true (xr.take k) := ⟨_, rfl⟩
                    rw [← hxs] at hown HST HLE
                    have HO0 := hide hown
                    have HGH1 := hide gH
                    first | subst hg1 | (injection hg1 with hg1; injection hg1 with hg1; subst hg1)
                    clear hfk hk hown gH hq hxs
                    by_cases hq0 : q = 0
                    · subst hq0
                      have q8 : ((0 : Int) != 0) = false := rfl
                      have HS := hide (show hld true (xr.take (k + 1)) = xs by rw [HST.out]; simp)
                      go_wp2
                      go_roundw
                      case rel => exact ⟨k + 1, Nat.le_succ_of_le HKK.out.2, HKK.out.1, rfl, by rw [HS.out]; exact HO0.out, HGH1.out⟩
                      case measure => have := HKK.out.1; simp [Go.RowKit.intOf]; omega
                    · have q8 : (q != 0) = true := by simpa using hq0
                      have HS := hide (show hld true (xr.take (k + 1)) = xs ++ [q] by
                        have hd : (decide (0 < k) || !true) = true := by have := HKK.out.2; simp; try omega
                        rw [HST.out, hd]; simp [hq0])
                      have HO := hide (HO0.out.alloc (.cells [.int .i64 q].toArray 3))
                      have HBK := hide (Blk.new wr 3 [.int .i64 q])
                      have HC := hide (HGH1.out.alloc (.cells [.int .i64 q].toArray 3))
                      have HBL := hide (show loH ≤ wr.heap.size by rw [← hwh]; exact HGH1.out.size)
                      clear hq0 HST
                      go_wp2_with (at_builtin; refine wpList_append_own _ rfl _ _ 37 rfl loH 3 i0 (.int .i64 0) 1 8 Try.underlying37 HI.out HZ0.out HZ1.out HZ2.out rfl (by decide) _ _ _ rfl HO.out ⟨wr.heap.size, 0, none⟩ 1 1 [.int .i64 q] rfl rfl (fun j u hj => by rw [addr_add, Nat.zero_add, HBK.out.cell]; exact hj) (fun u hu => by simp at hu; subst hu; rfl) (by have := HLE.out; unfold maxLen; omega) (by have := HLE.out; omega) (by rw [World.size_alloc]; have := HBL.out; omega) ?_)
                      intro v' w6 hown3 hgrow _
                      have cc := Chg.grownOwn HC.out HO.out (by rw [hwh]; exact Nat.le_refl _) hgrow
                      have HO3 := hide hown3
                      clear hgrow hown3 HC HO HBK yk q7 q8
                      go_wp2
                      go_roundw
                      case rel =>
                        refine ⟨k + 1, Nat.le_succ_of_le HKK.out.2, HKK.out.1, rfl, ?_, cc⟩
                        rw [HS.out, List.length_append, List.length_singleton]
                        have := HO3.out
                        simpa [ints] using this
                      case measure => have := HKK.out.1; simp [Go.RowKit.intOf]; omega
              | false =>
                simp only [if_neg Bool.false_ne_true]
                go_wp2_with fail
                generalize hwh : wh.heap.size = loH at *
                go_loopw [24, 25] (fun v c wr => ∃ k : Nat, 0 ≤ k ∧ k ≤ n1 ∧ c = .int .i64 k ∧ wr.ownsRow loH 3 1 v (hld false (xr.take k)).length (ints (hld false (xr.take k))) ∧ Grow wh wr) (fun _ c _ => n1 - (Go.RowKit.intOf c).toNat)
                case atStart => exact ⟨0, Nat.le_refl _, (Nat.zero_le _), rfl, by rw [hld_t0]; exact World.ownsRow_nil _ _ _ _, Chg.refl _ _⟩
                case round =>
                  obtain ⟨k, hfk, hk, rfl, hown, gH⟩ := hrel
                  rcases Nat.eq_or_lt_of_le hk with hke | hlt
                  · have hke' : n1 = k := hke.symm
                    subst hke'
                    have q7 : decide ((n1 : Int) < (n1 : Int)) = false := by simp
                    rw [show xr.take n1 = xr by rw [← HLEN.out.1, List.take_length]] at hown
                    obtain ⟨va, vc, rfl⟩ := own_len hown
                    have HOW := hide hown
                    have hcj := Grow.cell gH HCH.out
                    have HGI2 := hide (HGH.out.trans gH)
                    clear hfk hk hke hown gH
                    go_wp2_with fail
                    refine (HHO.out _ HGI2.out).mono ?_
                    rintro e wi ⟨ha, hcap, rfl, hrow2, ci⟩
                    have HR1 := hide (own_rd (own_grow HOW.out ci))
                    have HR2 := hide (own_rd hrow2)
                    have gI := HGI2.out.trans ci
                    clear hrow2 ci HOW HGI2 hcj
                    go_wp2_with fail
                    refine (L1.same_yes _ _ _ _ _ _ _ HR1.out HR2.out (by have := hld_len false xr; have := HLEN.out; omega)).mono ?_
                    rintro e wk ⟨rfl, ck⟩
                    have gK := gI.trans ck
                    clear gI ck
                    go_wp2
                    go_roundw
                    case rel => exact ⟨j + 1, HK.out, rfl, gK⟩
                    case measure => have := HK.out; simp [Go.RowKit.intOf]; omega
                  · have q7 : decide ((k : Int) < (n1 : Int)) = true := decide_eq_true (by omega)
                    obtain ⟨g1, hg1, -, -, -, yk⟩ := own_at (own_grow HRH.out gH) hlt
                    have hw7 : IntKind.i64.wrap ((k : Int) + 1) = ((k + 1 : Nat) : Int) := (IntWalk.i64_in _ (by have := HLEN.out; omega)).trans (by omega)
                    have HST := hide (hld_step false xr k (by rw [HLEN.out.1]; exact hlt))
                    have HLE := hide (show (hld false (xr.take k)).length ≤ 1000000 by have := hld_len false (xr.take k); have := HLEN.out; simp at *; omega)
                    have HKK := hide (And.intro hlt hfk)
                    obtain ⟨q, hq⟩ : ∃ q, xr.getD k 0 = q := ⟨_, rfl⟩
                    rw [hq] at yk HST
                    obtain ⟨xs, hxs⟩ : ∃ xs, xs = hld false (xr.take k) := ⟨_, rfl⟩
                    rw [← hxs] at hown HST HLE
                    have HO0 := hide hown
                    have HGH1 := hide gH
                    first | subst hg1 | (injection hg1 with hg1; injection hg1 with hg1; subst hg1)
                    clear hfk hk hown gH hq hxs
                    by_cases hq0 : q = 0
                    · subst hq0
                      have q8 : ((0 : Int) != 0) = false := rfl
                      have HS := hide (show hld false (xr.take (k + 1)) = xs by rw [HST.out]; simp)
                      go_wp2
                      go_roundw
                      case rel => exact ⟨k + 1, Nat.le_succ_of_le HKK.out.2, HKK.out.1, rfl, by rw [HS.out]; exact HO0.out, HGH1.out⟩
                      case measure => have := HKK.out.1; simp [Go.RowKit.intOf]; omega
                    · have q8 : (q != 0) = true := by simpa using hq0
                      have HS := hide (show hld false (xr.take (k + 1)) = xs ++ [q] by
                        have hd : (decide (0 < k) || !false) = true := by have := HKK.out.2; simp; try omega
                        rw [HST.out, hd]; simp [hq0])
                      have HO := hide (HO0.out.alloc (.cells [.int .i64 q].toArray 3))
                      have HBK := hide (Blk.new wr 3 [.int .i64 q])
                      have HC := hide (HGH1.out.alloc (.cells [.int .i64 q].toArray 3))
                      have HBL := hide (show loH ≤ wr.heap.size by rw [← hwh]; exact HGH1.out.size)
                      clear hq0 HST
                      go_wp2_with (at_builtin; refine wpList_append_own _ rfl _ _ 37 rfl loH 3 i0 (.int .i64 0) 1 8 Try.underlying37 HI.out HZ0.out HZ1.out HZ2.out rfl (by decide) _ _ _ rfl HO.out ⟨wr.heap.size, 0, none⟩ 1 1 [.int .i64 q] rfl rfl (fun j u hj => by rw [addr_add, Nat.zero_add, HBK.out.cell]; exact hj) (fun u hu => by simp at hu; subst hu; rfl) (by have := HLE.out; unfold maxLen; omega) (by have := HLE.out; omega) (by rw [World.size_alloc]; have := HBL.out; omega) ?_)
                      intro v' w6 hown3 hgrow _
                      have cc := Chg.grownOwn HC.out HO.out (by rw [hwh]; exact Nat.le_refl _) hgrow
                      have HO3 := hide hown3
                      clear hgrow hown3 HC HO HBK yk q7 q8
                      go_wp2
                      go_roundw
                      case rel =>
                        refine ⟨k + 1, Nat.le_succ_of_le HKK.out.2, HKK.out.1, rfl, ?_, cc⟩
                        rw [HS.out, List.length_append, List.length_singleton]
                        have := HO3.out
                        simpa [ints] using this
                      case measure => have := HKK.out.1; simp [Go.RowKit.intOf]; omega
            · have q3 : decide ((k : Int) < m1) = true := decide_eq_true (by omega)
              have hw3 : IntKind.i64.wrap ((k : Int) + 1) = ((k + 1 : Nat) : Int) := (IntWalk.i64_in _ (by have := HLEN.out; omega)).trans (by omega)
              have y2 := tb.cells.2.2.2.1
              obtain ⟨g, hbe, hlo, -, yc, yf, tn⟩ := tb.setD hlt x
              subst hbe
              have HKK := hide hlt
              have HE := hide (And.intro (cB.setCell (p := ⟨g, k, none⟩) (fun _ => hlo) (.int .i64 x)) tn)
              clear hk hlt hlo cB tb tn
              go_wp2
              go_roundw
              case rel => exact ⟨k + 1, _, _, HKK.out, rfl, HE.out⟩
              case measure => have := HKK.out; simp [Go.RowKit.intOf]; omega
        · have q3 : decide ((k : Int) < n1) = true := decide_eq_true (by omega)
          have hw3 : IntKind.i64.wrap ((k : Int) + 1) = ((k + 1 : Nat) : Int) := (IntWalk.i64_in _ (by have := HLEN.out; omega)).trans (by omega)
          have y2 := tb.cells.2.2.1
          obtain ⟨g, hbe, hlo, -, yc, yf, tn⟩ := tb.setR hlt x
          subst hbe
          have HKK := hide hlt
          have HE := hide (And.intro (cB.setCell (p := ⟨g, k, none⟩) (fun _ => hlo) (.int .i64 x)) tn)
          clear hk hlt hlo cB tb tn
          go_wp2
          go_roundw
          case rel => exact ⟨k + 1, _, _, HKK.out, rfl, HE.out⟩
          case measure => have := HKK.out; simp [Go.RowKit.intOf]; omega
theorem walk (a : Option Addr) (len cap : Nat) (cs : List Cl) (a1 : Option Addr) (len1 cap1 : Nat) (l : List Oq) (x : Int) (w : World) (hc : IsCls w a len cap cs) (ho : IsOps w a1 len1 cap1 l) (hx : (Lit.int .i64 x).wf = true) :
    Calls Try.prog 5 #[.slice a len cap, .slice a1 len1 cap1, .int .i64 x] w fun e w' => e = .returned (.bool true) ∧ Below w.heap.size w w' := by
  by_cases h : fewB l = true ∧ len ≤ 100 ∧ newX cs = 0
  · exact walk_main hc ho h.1 h.2.1 h.2.2
  · exact walk_no hc ho h
end

theorem own : ownKnob Try.prog.godebug = none := by kernel_rfl
theorem laidOut : laidOutB Try.prog = true := by kernel_rfl

set_option maxRecDepth 100000 in
theorem lifted (os : Os) (started : os.Started) (H : Type) (enc : TypeId × Value → H) :
    ReturnsInHanded {} Try.checked os 5 .any (Rows.graphOwnSpec.pre6 enc Try.prog Try.f5 Rows.graphOwnRow.domain false) (Rows.graphOwnSpec.post enc Try.prog Try.f5 false true false false) := by
  refine returnsInHanded_of_change (C := Try.checked) own started (by kernel_rfl) Try.func5
    (ChangeSpec.witness6 (enc := enc) (C := Try.checked) false ⟨#[], #[.slice none 0 0, .slice none 0 0, .int .i64 0], []⟩ 8 (by kernel_rfl) (by kernel_rfl) (by kernel_rfl) (by kernel_rfl)) ?_
  intro W base args ds gs before hval0 hW hcnd _
  have hval : ∀ (j : Nat) t v, Try.f5.params[j]? = some t → args[j]? = some v → Value.okWide Try.prog W .any base t v := hval0
  have hW' := hW
  obtain ⟨p, q, hA0, hV, rfl, hfz, hnd⟩ := hW
  have hA : DataW.TrodAll enc Try.prog W 0 (fun _ => true) true Try.f5.params.toList args.toList ds p := hA0
  rw [Try.params5] at hA hval
  obtain ⟨v0, vs0, d0, ds0, p0, q0, hargs, rfl, rfl, h0, r0⟩ := trodAll_cons hA
  obtain ⟨v1, vs1, d1, ds1, p1, q1, rfl, rfl, rfl, h1, r1⟩ := trodAll_cons r0
  obtain ⟨v2, vs2, d2, ds2, p2, q2, rfl, rfl, rfl, h2, r2⟩ := trodAll_cons r1
  obtain ⟨rfl, rfl, rfl⟩ := trodAll_nil r2
  obtain rfl : args = #[v0, v1, v2] := by cases args; simp_all
  obtain ⟨rfl, rfl⟩ := trodVars_none hV
  have k0 := h0
  have lt0 : ∀ x ∈ p0, x.block < W.heap.size := by obtain ⟨m, hm⟩ := k0; exact DataW.trod_lt m _ _ _ hm
  obtain ⟨a0, len0, cap0, cs0, rfl, w0⟩ := L5.open_cls (hval 0 22 v0 rfl rfl) h0
  have k1 := h1
  have lt1 : ∀ x ∈ p1, x.block < W.heap.size := by obtain ⟨m, hm⟩ := k1; exact DataW.trod_lt m _ _ _ hm
  obtain ⟨a1, len1, cap1, l1, rfl, w1⟩ := open_ops (hval 1 23 v1 rfl rfl) h1
  obtain ⟨a2, rfl, rfl, rfl, w2⟩ := open_int Try.underlying3 (hval 2 3 v2 rfl rfl) h2
  clear hA0 hval0
  refine (walk a0 len0 cap0 cs0 a1 len1 cap1 l1 a2 W w0 w1 w2).mono fun e W' ⟨he, bel⟩ => ?_
  subst he
  exact ⟨_, rfl, _, _, _, [], _, [], hW', trodAll_mk1 (shut_bool Try.underlying4 _), (trodAll_cons_mk (Below.trod laidOut (by kernel_rfl) (of_decide_eq_true (by kernel_rfl)) k0 bel lt0) (trodAll_cons_mk (Below.trod laidOut (by kernel_rfl) (of_decide_eq_true (by kernel_rfl)) k1 bel lt1) (trodAll_cons_mk (shut_int Try.underlying3 w2) trodAll_mk0))), rfl, bel.frame _, fun h => by cases h⟩

theorem over : Rows.graphOwnRow.holds Try.pinned (OpenSpec.ofChange Rows.graphOwnSpec) :=
  OpenClaim.holds_of_wide 5 Try.f5 rfl rfl rfl rfl rfl rfl rfl ⟨rfl, rfl, rfl, rfl, rfl⟩ rfl rfl rfl rfl rfl (by kernel_rfl) Try.func5 (by kernel_rfl)
    (of_decide_eq_true (by kernel_rfl)) (by unfold Func.isWrapper; first | (rw [if_pos (by decide +kernel)]; kernel_rfl) | (rw [if_neg (by decide +kernel)]; exact ⟨rfl, rfl⟩))
    (fun os started H enc _ => lifted os started H enc)

/-- The statement. -/
theorem proved : Rows.GraphOwnSaid := over
#print axioms proved
end Go.Proofs.Ytcinielgigdhmaa.graphOwn

