/- For all classes and names GraphAdds answers true: nodes that are added have nothing, and are told rising, in whatever order they came; a name is used once. Conditions: none. -/
import Derived.Test.YtcinielgigdhmaaL9Start
import Derived.Test.YtcinielgigdhmaaL9Tn
import Derived.Test.YtcinielgigdhmaaL9Mp
import Derived.Test.YtcinielgigdhmaaL9Hold0
namespace Go.Proofs.Ytcinielgigdhmaa.graphAdds
open Go.ChangeShapes Go.WideShapes Go.ChangeAt Go.RowKit Go.Proofs.Ytcinielgigdhmaa.L9
open Go.Proofs.Ytcinielgigdhmaa.L5 (Cl clAt IsCls newX shX shR shD)
set_option linter.unusedVariables false
section
variable {w : World} {a a1 : Option Addr} {len cap len1 cap1 : Nat} {cs : List Cl} {zs : List Int}
set_option maxRecDepth 100000 in
set_option maxHeartbeats 2000000 in
theorem walk_no (hc : IsCls w a len cap cs) (hi : IsRow .u8 w a1 len1 cap1 zs) (hn : ¬ (len1 ≤ 100 ∧ 0 < len ∧ len ≤ 100 ∧ newX cs = 0)) :
    Calls Try.prog 7 #[.slice a len cap, .slice a1 len1 cap1] w fun e w' => e = .returned (.bool true) ∧ Below w.heap.size w w' := by
  by_cases h1 : 100 < len1
  · have q0 : decide ((len1 : Int) > 100) = true := by simp; omega
    clear hn
    have HCL := hide hc
    have HID := hide hi
    have cc := Chg.refl (fun _ => False) w
    clear hc hi
    go_enter Try.func7, Try.ntmps7
    go_wp2_with fail
    refine (awake_any _).mono ?_
    rintro e w1 ⟨rfl, c1⟩
    replace cc := cc.trans c1
    clear c1
    go_wp2_with fail
    refine (awake_any _).mono ?_
    rintro e w9 ⟨rfl, c9⟩
    go_wp2
    go_ret
    exact ⟨rfl, (cc.trans c9).below (fun _ _ h => h) (Nat.le_refl _)⟩
  · have q0 : decide ((len1 : Int) > 100) = false := by simp; omega
    by_cases h2 : len = 0
    · have q1 : ((len : Int) == 0) = true := by simp [h2]
      clear hn
      have HCL := hide hc
      have HID := hide hi
      have cc := Chg.refl (fun _ => False) w
      clear hc hi
      go_enter Try.func7, Try.ntmps7
      go_wp2_with fail
      refine (awake_any _).mono ?_
      rintro e w1 ⟨rfl, c1⟩
      replace cc := cc.trans c1
      clear c1
      go_wp2_with fail
      refine (awake_any _).mono ?_
      rintro e w9 ⟨rfl, c9⟩
      go_wp2
      go_ret
      exact ⟨rfl, (cc.trans c9).below (fun _ _ h => h) (Nat.le_refl _)⟩
    · have q1 : ((len : Int) == 0) = false := by simp; omega
      by_cases hl : 100 < len
      · have q2 : decide ((len : Int) > 100) = true := by simp; omega
        clear hn
        have HCL := hide hc
        have HID := hide hi
        have cc := Chg.refl (fun _ => False) w
        clear hc hi
        go_enter Try.func7, Try.ntmps7
        go_wp2_with fail
        refine (awake_any _).mono ?_
        rintro e w1 ⟨rfl, c1⟩
        replace cc := cc.trans c1
        clear c1
        go_wp2_with fail
        refine (awake_any _).mono ?_
        rintro e w9 ⟨rfl, c9⟩
        go_wp2
        go_ret
        exact ⟨rfl, (cc.trans c9).below (fun _ _ h => h) (Nat.le_refl _)⟩
      · have q2 : decide ((len : Int) > 100) = false := by simp; omega
        replace hl : len ≤ 100 := by omega
        obtain ⟨X, hX⟩ : ∃ X, newX cs = X := ⟨_, rfl⟩
        have hX0 : X ≠ 0 := fun e => hn ⟨by omega, by omega, hl, by rw [hX, e]⟩
        have q3 : (X != 0) = true := by simpa using hX0
        have HNX := hide hX
        clear hn hX hX0
        have HCL := hide hc
        have HID := hide hi
        have cc := Chg.refl (fun _ => False) w
        clear hc hi
        go_enter Try.func7, Try.ntmps7
        go_wp2_with fail
        refine (awake_any _).mono ?_
        rintro e w1 ⟨rfl, c1⟩
        replace cc := cc.trans c1
        clear c1
        go_wp2_with fail
        refine (L5.rnew_any _ _ _ _ _ (HCL.out.chg cc fun _ _ => id) hl).mono ?_
        rintro e w3 ⟨rfl, c3⟩
        rw [HNX.out]
        replace cc := cc.trans c3
        
        go_wp2_with fail
        refine (awake_any _).mono ?_
        rintro e w9 ⟨rfl, c9⟩
        go_wp2
        go_ret
        exact ⟨rfl, (cc.trans c9).below (fun _ _ h => h) (Nat.le_refl _)⟩
theorem nd_ne {L : List Nd} {t : Int} : nd L t ≠ none ↔ ∃ y ∈ L, y.id = t := by
  constructor
  · intro h
    obtain ⟨y, hy⟩ := Option.ne_none_iff_exists'.1 h
    exact ⟨y, nd_some hy⟩
  · rintro ⟨y, hy, e⟩ h
    exact nd_none h y hy e
theorem nd_ins_ne (L : List Nd) (x : Nd) (t : Int) : nd (ins L x) t ≠ none ↔ (nd L t ≠ none ∨ t = x.id) := by
  rw [nd_ne, nd_ne]
  constructor
  · rintro ⟨y, hy, e⟩
    rcases mem_ins.1 hy with rfl | hy
    · exact .inr e.symm
    · exact .inl ⟨y, hy, e⟩
  · rintro (⟨y, hy, e⟩ | e)
    · exact ⟨y, mem_ins.2 (.inr hy), e⟩
    · exact ⟨x, mem_ins.2 (.inl rfl), e.symm⟩
theorem wos_ins (L : List Nd) (x : Nd) : wos (ins L x) = wos L + x.wo := by
  unfold wos
  induction L with
  | nil => simp [ins]
  | cons a l ih =>
    rw [ins_cons]
    split
    · simp only [List.map_cons, List.sum_cons, ih]; omega
    · simp only [List.map_cons, List.sum_cons]; omega
theorem srt_step {L : List Nd} (h : Srt L) {j : Nat} {x y : Nd} (hx : L[j]? = some x) (hy : L[j + 1]? = some y) : x.id < y.id := by
  obtain ⟨h1, e1⟩ := List.getElem?_eq_some_iff.1 hx
  obtain ⟨h2, e2⟩ := List.getElem?_eq_some_iff.1 hy
  rw [← e1, ← e2]
  exact List.pairwise_iff_getElem.1 h j (j + 1) h1 h2 (by omega)
/-- What stands when k names have come. -/
def Ad (w wr : World) (z p m k : Nat) (cs : List Cl) (wv : Value) : Prop :=
  ∃ S L, GS wr z S p cs L ∧ ¬ S m ∧ Mp wr m L.length L.length (fun y => nd L y ≠ none) ∧ L.length ≤ k ∧ wv = .int .i64 (wos L) ∧ Chg (fun j => w.heap.size ≤ j) w wr
set_option maxRecDepth 100000 in
set_option maxHeartbeats 40000000 in
theorem walk_main (hc : IsCls w a len cap cs) (hi : IsRow .u8 w a1 len1 cap1 zs) (hl1 : len1 ≤ 100) (hl0 : 0 < len) (hl : len ≤ 100) (hX : newX cs = 0) :
    Calls Try.prog 7 #[.slice a len cap, .slice a1 len1 cap1] w fun e w' => e = .returned (.bool true) ∧ Below w.heap.size w w' := by
  have HNX := hide hX
  have q0 : decide ((len1 : Int) > 100) = false := by simp; omega
  have q1 : ((len : Int) == 0) = false := by simp; omega
  have q2 : decide ((len : Int) > 100) = false := by simp; omega
  have hmm := @run_makeMap Try.prog
  have HLL := hide (And.intro hl1 (And.intro hl0 hl))
  clear hX
  have HCL := hide hc
  have HID := hide hi
  have cc := Chg.refl (fun _ => False) w
  clear hc hi
  go_enter Try.func7, Try.ntmps7
  go_wp2_with fail
  refine (awake_any _).mono ?_
  rintro e w1 ⟨rfl, c1⟩
  replace cc := cc.trans c1
  clear c1
  go_wp2_with fail
  refine (L5.rnew_any _ _ _ _ _ (HCL.out.chg cc fun _ _ => id) hl).mono ?_
  rintro e w3 ⟨rfl, c3⟩
  rw [HNX.out]
  replace cc := cc.trans c3
  
  clear c3
  go_wp2_with fail
  refine (new_tz (HCL.out.chg cc fun _ _ => id) hl HNX.out).mono ?_
  rintro e w4 ⟨tb, rfl, ht, c4⟩
  obtain ⟨z, hz⟩ : ∃ z, w4.heap.size = z := ⟨_, rfl⟩
  rw [hz] at ht
  have HZ := hide (And.intro (show w.heap.size ≤ z by rw [← hz]; exact Nat.le_trans cc.size c4.size) (Nat.le_of_eq hz.symm))
  have cz : Chg (fun k => w.heap.size ≤ k) w w4 := (cc.trans c4).mono fun _ _ h => h.elim
  clear cc
  clear c4 hz q0 q1 q2
  go_wp2_with fail
  refine (new_gr ht HZ.out.2).mono ?_
  rintro e w5 ⟨p, S, rfl, c5, hg, hs⟩
  have HAD := hide (show Ad w (w5.alloc (.map #[] 0)) z p w5.heap.size 0 cs (.int .i64 0) from ⟨S, [], hg.grow (Grow.box _ _), fun h => by have := (hg.s h).2; omega, (Mp.made w5).iff fun y => by simp [nd], Nat.le_refl _, rfl, (cz.step c5 fun _ _ h => h.elim).alloc _⟩)
  have HM := hide (show z ≤ w5.heap.size from Nat.le_trans HZ.out.2 c5.size)
  clear hg hs c5 cz ht
  go_wp2_with fail
  generalize w5.alloc (.map #[] 0) = w6 at *
  generalize w5.heap.size = m at *
  clear hmm
  go_loopw [9, 51] (fun wv i wr => ∃ k : Nat, k ≤ len1 ∧ i = .int .i64 k ∧ Ad w wr z p m k cs wv) (fun _ i _ => len1 - (Go.RowKit.intOf i).toNat)
  case atStart => exact ⟨0, Nat.zero_le _, rfl, HAD.out⟩
  case round =>
    clear HAD
    obtain ⟨k, hk, rfl, S1, L, hg, hSm, hmp, hLk, rfl, hcw⟩ := hrel
    rcases Nat.eq_or_lt_of_le hk with rfl | hlt
    · as_aux_lemma =>
      have q3 : decide ((k : Int) < k) = false := by simp
      obtain ⟨n, hn⟩ : ∃ n, L.length = n := ⟨_, rfl⟩
      obtain ⟨N, hN⟩ : ∃ N, wos L = N := ⟨_, rfl⟩
      have hk1 := HLL.out.1
      rw [hn] at hmp hLk
      have HG := hide hg
      have HN := hide hn
      have HNN := hide hN
      have HB := hide (show n ≤ 100 by omega)
      rw [hN]
      clear hk hn hN hk1 hLk
      have HMP := hide hmp
      have HCW := hide hcw
      clear hmp hcw
      go_wp2_with fail
      refine (ids_gs HG.out (by rw [HN.out]; have := HB.out; omega)).mono ?_
      rintro e w7 ⟨ia, ic, rfl, hrow, c7⟩
      rw [HN.out] at hrow
      rw [HN.out]
      have HROW := hide hrow
      have HG7 := hide (HG.out.grow c7)
      have HMP7 := hide (HMP.out.grow c7)
      have HC7 := hide (HCW.out.step c7 fun _ _ h => h.elim)
      clear hrow c7
      go_wp2_with fail
      go_loopw [126] (fun i wr => ∃ j : Nat, j ≤ n ∧ i = .int .i64 j ∧ Grow w7 wr) (fun i _ => n - (Go.RowKit.intOf i).toNat)
      case atStart => exact ⟨0, Nat.zero_le _, rfl, Chg.refl _ _⟩
      case round =>
        obtain ⟨j, hj, rfl, gg⟩ := hrel
        rcases Nat.eq_or_lt_of_le hj with rfl | hlt
        · have q3 : decide ((j : Int) < j) = false := by simp
          have hml := (HMP7.out.grow gg).len 3
          have e1 : ((j : Int) == (j : Int)) = true := by simp
          have e2 : ((N : Int) == (N : Int)) = true := by simp
          clear hj
          go_wp2_with fail
          refine (words_gs (HG7.out.grow gg) (by rw [HN.out]; have := HB.out; omega)).mono ?_
          rintro e w8 ⟨rfl, c8⟩
          rw [HNN.out]
          go_wp2
          go_ret
          exact ⟨rfl, ((HC7.out.step gg fun _ _ h => h.elim).step c8 fun _ _ h => h.elim).below (fun i hi h => by omega) (Nat.le_refl _)⟩
        · have q3 : decide ((j : Int) < n) = true := by simp; omega
          obtain ⟨x, hxj⟩ : ∃ x, L[j]? = some x := ⟨_, List.getElem?_eq_getElem (by rw [HN.out]; exact hlt)⟩
          have hxm := List.mem_of_getElem? hxj
          obtain ⟨gi, hia, -, -, -, hcj⟩ := own_at (own_grow HROW.out gg) hlt
          have hid : In64 x.id := (HG7.out.ok hxm).id2
          have HLK := hide (fun W (cW : Grow wr W) => ((HMP7.out.grow gg).grow cW).look hid (c := true) (fun _ => rfl) (fun h => absurd (by rw [nd_mem HG7.out.srt hxm]; simp) h))
          rw [show (L.map Nd.id).getD j 0 = x.id by simp [List.getD_eq_getElem?_getD, hxj]] at hcj
          have HK := hide hlt
          have hw : IntKind.i64.wrap ((j : Int) + 1) = ((j + 1 : Nat) : Int) := (IntWalk.i64_in _ (by have := HB.out; omega)).trans (by omega)
          rcases Nat.eq_zero_or_pos j with h0 | h0
          · have q4 : decide ((j : Int) > 0) = false := decide_eq_false (by omega)
            have q6 : decide ((0 : Int) < (j : Int)) = false := decide_eq_false (by omega)
            have q7 : decide (0 < j) = false := decide_eq_false (by omega)
            subst hia
            generalize x.id = X at *
            clear hj hlt hxj hxm hid h0
            go_wp2_with fail
            refine wp_region_grow (by kernel_rfl) (by kernel_rfl) ?_
            repeat (
              with_reducible refine wpQuiet_step ?_
              intro K hK
              first
                | ((with_reducible refine quiet_offT rfl ?_ (hK _ ?_)); focus (refine ⟨_, rfl, ?_⟩; with_reducible rfl))
                | ((with_reducible refine quiet_offF rfl ?_ (hK _ ?_)); focus (refine ⟨_, rfl, ?_⟩; with_reducible rfl))
                | ((with_reducible refine quiet_offN rfl ?_ (hK _ ?_)); focus (exact rfl))
                | ((first | with_reducible refine quiet_free rfl ?_ | ((with_reducible refine quiet_on rfl ?_ ?_); focus (refine ⟨_, rfl, ?_⟩; with_reducible rfl)))
                   apply Exists.intro
                   refine ⟨fun Wq hW => ?_, hK _ ?_⟩
                   focus (have q0 := Grow.cell hW hcj; have q1 := HLK.out _ hW; go_simp; first | done | with_reducible rfl))
              clear hK K
              simp only [Act.put, List.setIfInBounds_toArray, List.set_cons_zero, List.set_cons_succ])
            with_reducible refine wpQuiet_nil ?_
            intro w8 c8
            replace gg := gg.trans c8
            clear c8
            go_wp2
            go_roundw
            case rel => exact ⟨j + 1, HK.out, rfl, gg⟩
            case measure => have := HK.out; simp [Go.RowKit.intOf]; omega
          · have q4 : decide ((j : Int) > 0) = true := decide_eq_true (by omega)
            have q6 : decide ((0 : Int) < (j : Int)) = true := decide_eq_true (by omega)
            have q7 : decide (0 < j) = true := decide_eq_true (by omega)
            obtain ⟨i, hi⟩ : ∃ i, j = i + 1 := ⟨j - 1, by omega⟩
            have hw4 : IntKind.i64.wrap ((j : Int) - 1) = (i : Int) := (IntWalk.i64_in _ (by have := HB.out; omega)).trans (by omega)
            obtain ⟨y, hyj⟩ : ∃ y, L[i]? = some y := ⟨_, List.getElem?_eq_getElem (by rw [HN.out]; omega)⟩
            obtain ⟨gi', hia', -, -, -, hci⟩ := own_at (k := i) (own_grow HROW.out gg) (by omega)
            rw [hia] at hia'
            injection hia' with hia'
            injection hia' with hia'
            subst hia'
            rw [show (L.map Nd.id).getD i 0 = y.id by simp [List.getD_eq_getElem?_getD, hyj]] at hci
            have hsl : y.id < x.id := srt_step HG7.out.srt hyj (by rw [← hi]; exact hxj)
            have q5 : decide (y.id ≥ x.id) = false := decide_eq_false (by omega)
            have q8 : decide (x.id ≤ y.id) = false := decide_eq_false (by omega)
            have q9 : i < n := by omega
            have q10 : decide ((i : Int) < (n : Int)) = true := decide_eq_true (by omega)
            subst hia
            generalize x.id = X at *
            generalize y.id = Y at *
            clear hj hlt hxj hxm hid hyj hsl hi h0
            go_wp2_with fail
            refine wp_region_grow (by kernel_rfl) (by kernel_rfl) ?_
            repeat (
              with_reducible refine wpQuiet_step ?_
              intro K hK
              first
                | ((with_reducible refine quiet_offT rfl ?_ (hK _ ?_)); focus (refine ⟨_, rfl, ?_⟩; with_reducible rfl))
                | ((with_reducible refine quiet_offF rfl ?_ (hK _ ?_)); focus (refine ⟨_, rfl, ?_⟩; with_reducible rfl))
                | ((with_reducible refine quiet_offN rfl ?_ (hK _ ?_)); focus (exact rfl))
                | ((first | with_reducible refine quiet_free rfl ?_ | ((with_reducible refine quiet_on rfl ?_ ?_); focus (refine ⟨_, rfl, ?_⟩; with_reducible rfl)))
                   apply Exists.intro
                   refine ⟨fun Wq hW => ?_, hK _ ?_⟩
                   focus (have q0 := Grow.cell hW hcj; have q1 := Grow.cell hW hci; have q2 := HLK.out _ hW; go_simp; first | done | with_reducible rfl))
              clear hK K
              simp only [Act.put, List.setIfInBounds_toArray, List.set_cons_zero, List.set_cons_succ])
            with_reducible refine wpQuiet_nil ?_
            intro w8 c8
            replace gg := gg.trans c8
            clear c8
            go_wp2
            go_roundw
            case rel => exact ⟨j + 1, HK.out, rfl, gg⟩
            case measure => have := HK.out; simp [Go.RowKit.intOf]; omega
    · as_aux_lemma =>
      have q3 : decide ((k : Int) < len1) = true := by simp; omega
      obtain ⟨ax, rfl, hcx, hwx⟩ := (HID.out.chg hcw fun i hi h => by omega).at_ hlt
      have bz := bounds_u8 hwx
      obtain ⟨y, hy⟩ : ∃ y, zs.getD k 0 = y := ⟨_, rfl⟩
      rw [hy] at hcx bz
      have hid : In64 y := WalkArith.wf_i64 (by omega)
      have hcv : IntKind.i64.wrap y = y := IntWalk.i64_in _ (by omega)
      obtain ⟨r, hr⟩ : ∃ r, k % len = r := ⟨_, rfl⟩
      have hrl : r < len := by rw [← hr]; exact Nat.mod_lt _ HLL.out.2.1
      have hll := HLL.out
      have htm : Int.tmod (k : Int) (len : Int) = (r : Int) := by rw [← hr]; rfl
      have hwr : IntKind.i64.wrap (r : Int) = (r : Int) := IntWalk.i64_in _ (by omega)
      obtain ⟨K1, hK1⟩ : ∃ K1 : Int, K1 = (r : Int) + 1 := ⟨_, rfl⟩
      have hw1 : IntKind.i64.wrap (1 + (r : Int)) = K1 := (IntWalk.i64_in _ (by omega)).trans (by omega)
      have htm2 : (k : Int) % (len : Int) = (r : Int) := by rw [← hr]; rfl
      have hwr2 : wrap64 (r : Int) = (r : Int) := wrap64_id _ (by omega)
      have hzl : ((len : Int) == 0) = false := by simp; omega
      have hzl2 : ¬ (len : Int) = 0 := by omega
      have hzl3 : ¬ len = 0 := by omega
      obtain ⟨cb, co, c, rfl, hcr, hca, -⟩ := (HCL.out.chg hcw fun i hi h => by omega).at_ hrl
      have hcl : clAt cs K1 = some c := by rw [hK1]; exact L5.clAt_at hcr
      have HK1 := hide hK1
      have hX0 : shX (clAt cs K1) 0 = 0 := by rw [hcl]; simp [shX]
      have HCL1 := hide hcl
      have HX0 := hide hX0
      have HLT := hide hlt
      have HLK0 := hide hLk
      have hkw : IntKind.i64.wrap ((k : Int) + 1) = ((k + 1 : Nat) : Int) := (IntWalk.i64_in _ (by omega)).trans (by omega)
      have HG := hide hg
      have HS := hide hSm
      have HMP := hide hmp
      have HCW := hide hcw
      have HID2 := hide hid
      have hcf : wr.cell? ⟨cb, co + r * 4 + 3, none⟩ = some (.bool c.f) := hca.2.2.2
      have HCB := hide (show cb < w.heap.size by obtain ⟨b, off, c', e, -, h, -⟩ := HCL.out.at_ hrl; injection e with e; injection e with e; subst e; exact h.lt)
      have HRL := hide (And.intro hrl (And.intro bz (show len ≤ 100 by have := HLL.out; omega)))
      clear hy hwx hr hK1 hll hg hSm hmp hcw hid hLk hcl hX0 hca hk hlt
      go_wp2_with fail
      refine wp_region_grow (by kernel_rfl) (by kernel_rfl) ?_
      repeat (
        with_reducible refine wpQuiet_step ?_
        intro K hK
        first
          | ((with_reducible refine quiet_offT rfl ?_ (hK _ ?_)); focus (refine ⟨_, rfl, ?_⟩; with_reducible rfl))
          | ((with_reducible refine quiet_offF rfl ?_ (hK _ ?_)); focus (refine ⟨_, rfl, ?_⟩; with_reducible rfl))
          | ((with_reducible refine quiet_offN rfl ?_ (hK _ ?_)); focus (exact rfl))
          | ((first | with_reducible refine quiet_free rfl ?_ | ((with_reducible refine quiet_on rfl ?_ ?_); focus (refine ⟨_, rfl, ?_⟩; with_reducible rfl)))
             apply Exists.intro
             refine ⟨fun Wq hW => ?_, hK _ ?_⟩
             focus (have q0 := Grow.cell hW hcx; go_simp; first | done | with_reducible rfl))
        clear hK K
        simp only [Act.put, List.setIfInBounds_toArray, List.set_cons_zero, List.set_cons_succ])
      with_reducible refine wpQuiet_nil ?_
      intro w7 c7
      have HG7 := hide (HG.out.grow c7)
      have HMP7 := hide (HMP.out.grow c7)
      have HC7 := hide (HCW.out.step c7 fun _ _ h => h.elim)
      replace hcf := Grow.cell c7 hcf
      clear c7 hcx hcv htm hwr hw1 hzl htm2 hwr2 hzl2 hzl3
      go_wp2_with fail
      refine (add_gs HG7.out (by have := HLK0.out; have := HLL.out; have := HLT.out; omega) HID2.out K1 0).mono ?_
      rintro e w8 ⟨rfl, c8, S2, hg8, hs8⟩
      have hS2m : ¬ S2 m := fun h => by
        rcases hs8 m h with h | h
        · exact HS.out h
        · have := HMP7.out.lt; omega
      have HMP8 := hide (HMP7.out.chg c8 HS.out)
      have HC8 := hide (HC7.out.step c8 fun i _ h => Nat.le_trans HZ.out.1 (HG7.out.s h).1)
      replace hcf := Chg.cell c8 hcf (fun h => by have h' : S1 cb := h; have := (HG7.out.s h').1; have := HZ.out.1; have := HCB.out; omega)
      have hA : adX cs L y K1 0 = if y < 1 ∨ nd L y ≠ none then 1 else 0 := by unfold adX; rw [HX0.out]; rfl
      have HG8 := hide hg8
      have HS2 := hide hS2m
      clear c8 hs8 hg8 hS2m
      have bz2 := HRL.out.2.1
      by_cases hy1 : y < 1
      · rw [if_pos (.inl hy1)] at hA
        rw [show adL cs L y K1 0 = L by unfold adL; rw [hA]; rfl] at HG8
        rw [hA]
        have q4 : decide (y > 0) = false := decide_eq_false (by omega)
        have q5 : decide (0 < y) = false := decide_eq_false (by omega)
        clear hA hy1 bz2 bz hrl hcf
        go_wp2
        go_roundw
        case rel => exact ⟨k + 1, HLT.out, rfl, S2, L, HG8.out, HS2.out, HMP8.out, Nat.le_succ_of_le HLK0.out, rfl, HC8.out⟩
        case measure => have := HLT.out; simp [Go.RowKit.intOf]; omega
      · have q4 : decide (y > 0) = true := decide_eq_true (by omega)
        have q5 : decide (0 < y) = true := decide_eq_true (by omega)
        by_cases hn : nd L y = none
        · rw [if_neg (by rintro (h | h); exact hy1 h; exact h hn)] at hA
          rw [show adL cs L y K1 0 = ins L (newNd cs y K1 0) by unfold adL; rw [hA]; rfl] at HG8
          rw [hA]
          have hlk := HMP8.out.look HID2.out (c := false) (fun h => absurd hn h) (fun _ => rfl)
          have hlen : L.length < 1000 := by have := HLK0.out; have := HLL.out; have := HLT.out; omega
          obtain ⟨w9, hrun, hmp9, c9⟩ := HMP8.out.put HID2.out (fun h => h hn) (by unfold maxLen; omega)
          obtain ⟨rs, hrs⟩ : ∃ rs, rs = zeros (shR (some c) 0).toNat := ⟨_, rfl⟩
          obtain ⟨ds, hds⟩ : ∃ ds, ds = zeros (shD (some c) 0).toNat := ⟨_, rfl⟩
          have hnw : newNd cs y K1 0 = ⟨y, K1, rs, ds, c.f⟩ := by unfold newNd; rw [HCL1.out, hrs, hds]
          rw [hnw] at HG8
          have hnd : nd (ins L ⟨y, K1, rs, ds, c.f⟩) y = some ⟨y, K1, rs, ds, c.f⟩ := nd_mem HG8.out.srt (mem_ins.2 (.inl rfl))
          have hok := HG8.out.ok (nd_some hnd).1
          have hwl := wos_le (fun x hx => HG8.out.ok (x := x) hx)
          rw [wos_ins, ins_len] at hwl
          obtain ⟨n1, h1⟩ : ∃ n1, rs.length = n1 := ⟨_, rfl⟩
          obtain ⟨m1, h2⟩ : ∃ m1, ds.length = m1 := ⟨_, rfl⟩
          have hwo : (⟨y, K1, rs, ds, c.f⟩ : Nd).wo = 2 + n1 + m1 := by show 2 + rs.length + ds.length = _; rw [h1, h2]
          rw [hwo] at hwl
          have HWN := hide (show wos (ins L ⟨y, K1, rs, ds, c.f⟩) = wos L + (2 + n1 + m1) by rw [wos_ins, hwo])
          have hr0 : ∀ q : Nat, rs.getD q 0 = 0 := fun q => by
            rw [hrs, List.getD_eq_getElem?_getD, zeros, List.getElem?_replicate]
            split <;> rfl
          have HMP9 := hide (show Mp w9 m (ins L ⟨y, K1, rs, ds, c.f⟩).length (ins L ⟨y, K1, rs, ds, c.f⟩).length (fun t => nd (ins L ⟨y, K1, rs, ds, c.f⟩) t ≠ none) by
            rw [ins_len]
            exact hmp9.iff fun t => nd_ins_ne _ _ _)
          have HG9 := hide (HG8.out.chg c9 (fun q hq => by rw [hq]; exact HM.out) (fun q hq e => HS2.out (e ▸ hq)))
          have HC9 := hide (HC8.out.step c9 fun i _ h => by rw [h]; exact Nat.le_trans HZ.out.1 HM.out)
          have HLL9 := hide (show (ins L ⟨y, K1, rs, ds, c.f⟩).length ≤ k + 1 by rw [ins_len]; have := HLK0.out; omega)
          have hcf9 := Chg.cell c9 hcf (fun h => by have := HM.out; have := HZ.out.1; have := HCB.out; have h' : cb = m := h; omega)
          generalize ins L ⟨y, K1, rs, ds, c.f⟩ = L2 at *
          have HNT := hide (node_tn HG9.out HID2.out hnd h1 h2)
          have HHZ := hide (fun (W : World) (g : Grow w9 W) => holds_zero (HG9.out.grow g) HID2.out hnd hr0)
          have HBD := hide (show wos L + (2 + n1 + m1) ≤ 62100 by omega)
          clear hA hy1 bz2 bz hrl hmp9 c9 hrs hds hnw hnd hok hwl h1 h2 hwo hr0 hlen hn HMP8 HG8 HC8 hcf
          generalize wos L = N at *
          go_wp2_with fail
          refine HNT.out.mono ?_
          rintro e wa ⟨ar, car, ad, cad, rfl, ca, ta⟩
          have gA := ca.alloc (.cells #[.int .i64 y, .int .i64 K1, .slice ar n1 car, .slice ad m1 cad, .bool c.f] 45)
          have hcf2 := Grow.cell gA hcf9
          obtain ⟨b0, b1, b2, b3, b4⟩ := ta.cells
          have HBD2 := HBD.out
          clear ca hcf9 ta HNT hrun hlk q4 q5
          go_wp2_with fail
          generalize wa.alloc (.cells #[.int .i64 y, .int .i64 K1, .slice ar n1 car, .slice ad m1 cad, .bool c.f] 45) = wa2 at *
          generalize wa.heap.size = tA at *
          have hr1 := HRL.out.1
          have hr2 := HRL.out.2.2
          have hr3 := HK1.out
          have s1 : (K1 != K1) = false := bne_self_eq_false _
          have s2 : (c.f != c.f) = false := bne_self_eq_false _
          have s3 : IntKind.i64.wrap (K1 - 1) = (r : Int) := (IntWalk.i64_in _ (by omega)).trans (by omega)
          have s4 : decide ((r : Int) < (len : Int)) = true := decide_eq_true (by omega)
          have s5 : IntKind.i64.wrap (r : Int) = (r : Int) := IntWalk.i64_in _ (by omega)
          clear hr3
          refine wp_region_grow (by kernel_rfl) (by kernel_rfl) ?_
          repeat (
            with_reducible refine wpQuiet_step ?_
            intro K hK
            first
              | ((with_reducible refine quiet_offT rfl ?_ (hK _ ?_)); focus (refine ⟨_, rfl, ?_⟩; with_reducible rfl))
              | ((with_reducible refine quiet_offF rfl ?_ (hK _ ?_)); focus (refine ⟨_, rfl, ?_⟩; with_reducible rfl))
              | ((with_reducible refine quiet_offN rfl ?_ (hK _ ?_)); focus (exact rfl))
              | ((first | with_reducible refine quiet_free rfl ?_ | ((with_reducible refine quiet_on rfl ?_ ?_); focus (refine ⟨_, rfl, ?_⟩; with_reducible rfl)))
                 apply Exists.intro
                 refine ⟨fun Wq hW => ?_, hK _ ?_⟩
                 focus (have q0 := Grow.cell hW b1; have q1 := Grow.cell hW b4; have q2 := Grow.cell hW hcf2; go_simp; first | done | with_reducible rfl | (go_at_call 35; (first | with_reducible exact grown_call hW (HHZ.out _ (gA.trans hW)) | with_reducible exact grown_same hW (HHZ.out _ (gA.trans hW))))))
            clear hK K
            simp only [Act.put, List.setIfInBounds_toArray, List.set_cons_zero, List.set_cons_succ])
          with_reducible refine wpQuiet_nil ?_
          intro w10 c10
          have g10 := gA.trans c10
          clear s1 s2 s3 s4 s5 hr1 hr2 b0 b1 b2 b3 b4 hcf2 c10 gA HBD2
          go_wp2
          go_roundw
          case rel => exact ⟨k + 1, HLT.out, rfl, S2, L2, HG9.out.grow g10, HS2.out, HMP9.out.grow g10, HLL9.out, by rw [HWN.out]; first | rfl | (congr 1; omega) | (simp; omega), HC9.out.step g10 fun _ _ h => h.elim⟩
          case measure => have := HLT.out; simp [Go.RowKit.intOf]; omega
        · rw [if_pos (.inr hn)] at hA
          rw [show adL cs L y K1 0 = L by unfold adL; rw [hA]; rfl] at HG8
          rw [hA]
          have hlk := HMP8.out.look HID2.out (c := true) (fun _ => rfl) (fun h => absurd hn h)
          clear hA hy1 bz2 bz hrl hcf hn
          go_wp2
          go_roundw
          case rel => exact ⟨k + 1, HLT.out, rfl, S2, L, HG8.out, HS2.out, HMP8.out, Nat.le_succ_of_le HLK0.out, rfl, HC8.out⟩
          case measure => have := HLT.out; simp [Go.RowKit.intOf]; omega
theorem walk (a : Option Addr) (len cap : Nat) (cs : List Cl) (a1 : Option Addr) (len1 cap1 : Nat) (zs : List Int) (w : World) (hc : IsCls w a len cap cs) (hi : IsRow .u8 w a1 len1 cap1 zs) :
    Calls Try.prog 7 #[.slice a len cap, .slice a1 len1 cap1] w fun e w' => e = .returned (.bool true) ∧ Below w.heap.size w w' := by
  by_cases h : len1 ≤ 100 ∧ 0 < len ∧ len ≤ 100 ∧ newX cs = 0
  · exact walk_main hc hi h.1 h.2.1 h.2.2.1 h.2.2.2
  · exact walk_no hc hi h
end

theorem own : ownKnob Try.prog.godebug = none := by kernel_rfl
theorem laidOut : laidOutB Try.prog = true := by kernel_rfl

set_option maxRecDepth 100000 in
theorem lifted (os : Os) (started : os.Started) (H : Type) (enc : TypeId × Value → H) :
    ReturnsInHanded {} Try.checked os 7 .any (Rows.graphAddsSpec.pre6 enc Try.prog Try.f7 Rows.graphAddsRow.domain false) (Rows.graphAddsSpec.post enc Try.prog Try.f7 false true false false) := by
  refine returnsInHanded_of_change (C := Try.checked) own started (by kernel_rfl) Try.func7
    (ChangeSpec.witness6 (enc := enc) (C := Try.checked) false ⟨#[], #[.slice none 0 0, .slice none 0 0], []⟩ 8 (by kernel_rfl) (by kernel_rfl) (by kernel_rfl) (by kernel_rfl)) ?_
  intro W base args ds gs before hval0 hW hcnd _
  have hval : ∀ (j : Nat) t v, Try.f7.params[j]? = some t → args[j]? = some v → Value.okWide Try.prog W .any base t v := hval0
  have hW' := hW
  obtain ⟨p, q, hA0, hV, rfl, hfz, hnd⟩ := hW
  have hA : DataW.TrodAll enc Try.prog W 0 (fun _ => true) true Try.f7.params.toList args.toList ds p := hA0
  rw [Try.params7] at hA hval
  obtain ⟨v0, vs0, d0, ds0, p0, q0, hargs, rfl, rfl, h0, r0⟩ := trodAll_cons hA
  obtain ⟨v1, vs1, d1, ds1, p1, q1, rfl, rfl, rfl, h1, r1⟩ := trodAll_cons r0
  obtain ⟨rfl, rfl, rfl⟩ := trodAll_nil r1
  obtain rfl : args = #[v0, v1] := by cases args; simp_all
  obtain ⟨rfl, rfl⟩ := trodVars_none hV
  have k0 := h0
  have lt0 : ∀ x ∈ p0, x.block < W.heap.size := by obtain ⟨m, hm⟩ := k0; exact DataW.trod_lt m _ _ _ hm
  obtain ⟨a0, len0, cap0, cs0, rfl, w0⟩ := L5.open_cls (hval 0 22 v0 rfl rfl) h0
  obtain ⟨a1, len1, cap1, rfl⟩ := okWide_slice Try.underlying64 (hval 1 64 v1 rfl rfl)
  have k1 := h1
  have lt1 : ∀ x ∈ p1, x.block < W.heap.size := by obtain ⟨m, hm⟩ := k1; exact DataW.trod_lt m _ _ _ hm
  obtain ⟨z1, w1⟩ : ∃ zs, IsRow .u8 W a1 len1 cap1 zs := open_row Try.underlying64 Try.underlying5 (by kernel_rfl) h1
  clear hA0 hval0
  refine (walk a0 len0 cap0 cs0 a1 len1 cap1 z1 W w0 w1).mono fun e W' ⟨he, bel⟩ => ?_
  subst he
  exact ⟨_, rfl, _, _, _, [], _, [], hW', trodAll_mk1 (shut_bool Try.underlying4 _), (trodAll_cons_mk (Below.trod laidOut (by kernel_rfl) (of_decide_eq_true (by kernel_rfl)) k0 bel lt0) (trodAll_cons_mk (Below.trod laidOut (by kernel_rfl) (of_decide_eq_true (by kernel_rfl)) k1 bel lt1) trodAll_mk0)), rfl, bel.frame _, fun h => by cases h⟩

theorem over : Rows.graphAddsRow.holds Try.pinned (OpenSpec.ofChange Rows.graphAddsSpec) :=
  OpenClaim.holds_of_wide 7 Try.f7 rfl rfl rfl rfl rfl rfl rfl ⟨rfl, rfl, rfl, rfl, rfl⟩ rfl rfl rfl rfl rfl (by kernel_rfl) Try.func7 (by kernel_rfl)
    (of_decide_eq_true (by kernel_rfl)) (by unfold Func.isWrapper; first | (rw [if_pos (by decide +kernel)]; kernel_rfl) | (rw [if_neg (by decide +kernel)]; exact ⟨rfl, rfl⟩))
    (fun os started H enc _ => lifted os started H enc)

/-- The statement. -/
theorem proved : Rows.GraphAddsSaid := over
#print axioms proved
end Go.Proofs.Ytcinielgigdhmaa.graphAdds

