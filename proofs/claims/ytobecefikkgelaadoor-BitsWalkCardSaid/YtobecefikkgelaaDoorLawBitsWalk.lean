/- For all lists and numbers BitsWalk answers true: gone through by Next the places that are set come, rising, each once; as many as Count says; and Between counts those that come. Conditions: the table of math/bits.TrailingZeros64 is as the program's text lays it, which the card ties. -/
import Derived.Test.YtobecefikkgelaaDoorIs
import Derived.Test.YtobecefikkgelaaDoorCards
import Derived.Test.YtobecefikkgelaaDoorTie
import Derived.SevenTiedAt
import Derived.Stop.Joined
import Derived.ShutString
namespace Go.Proofs.YtobecefikkgelaaDoor.bitsWalk
open Go.ChangeShapes Go.WideShapes Go.ChangeAt Go.RowKit
set_option linter.unusedVariables false

set_option maxHeartbeats 1000000 in
set_option maxRecDepth 100000 in
theorem walk_long (a1 : Option Addr) (len cap : Nat) (a b : Int) (w : World) (ht : Tab w) (h : 200 < len) :
    Calls Tryd.prog 4 #[.slice a1 len cap, .int .i64 a, .int .i64 b] w fun e w' => e = .returned (.bool true) ∧ Below w.heap.size w w' := by
  have HT := hide ht
  clear ht
  go_enter Tryd.func4, Tryd.ntmps4
  go_wp2_with fail
  refine (awake_any _ HT.out).mono ?_
  rintro e wa ⟨rfl, ca⟩
  go_wp2_with fail
  refine (awake_any _ (HT.out.chg ca id)).mono ?_
  rintro e wb ⟨rfl, cb⟩
  go_wp2
  go_ret
  exact ⟨rfl, (ca.trans cb).under⟩

/-- The places from one on, below another. -/
def rg (S : Nat → Bool) (a b : Int) : Nat → Bool := fun i => S i && decide (a ≤ (i : Int) ∧ (i : Int) < b)
theorem rg_no {S : Nat → Bool} {a b : Int} {i : Nat} (h : S i = false) : rg S a b i = false := by unfold rg; rw [h]; rfl
theorem rg_out {S : Nat → Bool} {a b : Int} {i : Nat} (h : ¬ (a ≤ (i : Int) ∧ (i : Int) < b)) : rg S a b i = false := by unfold rg; rw [decide_eq_false h, Bool.and_false]
theorem rg_in {S : Nat → Bool} {a b : Int} {i : Nat} (hs : S i = true) (h : a ≤ (i : Int) ∧ (i : Int) < b) : rg S a b i = true := by unfold rg; rw [decide_eq_true h, hs]; rfl
theorem step_in {S : Nat → Bool} {t j : Nat} (h1 : t ≤ j) (h2 : S j = true) (h3 : ∀ k, t ≤ k → k < j → S k = false) : cnt S (j + 1) = cnt S t + 1 := by
  show cnt S j + (if S j = true then 1 else 0) = _
  rw [h2, cnt_upto h1 h3]; rfl
theorem step_out {S : Nat → Bool} {t j : Nat} (h1 : t ≤ j) (h2 : S j = false) (h3 : ∀ k, t ≤ k → k < j → S k = false) : cnt S (j + 1) = cnt S t := by
  show cnt S j + (if S j = true then 1 else 0) = _
  rw [h2, cnt_upto h1 h3]; rfl

theorem sum_cast1 {a c : Nat} (h : c = a + 1) : Value.int .i64 ((a : Int) + 1) = .int .i64 ((c : Nat) : Int) := by rw [h]; rfl
theorem same_cast {a c : Nat} (h : c = a + 0) : Value.int .i64 (a : Int) = .int .i64 ((c : Nat) : Int) := by rw [h]; rfl
set_option maxHeartbeats 4000000 in
set_option maxRecDepth 100000 in
theorem walk_main (a1 : Option Addr) (len cap : Nat) (zs : List Int) (a b : Int) (w : World) (ht : Tab w) (h0 : IsRow .u16 w a1 len cap zs) (hlen : len ≤ 200) :
    Calls Tryd.prog 4 #[.slice a1 len cap, .int .i64 a, .int .i64 b] w fun e w' => e = .returned (.bool true) ∧ Below w.heap.size w w' := by
  have hlen' : decide ((200 : Int) < len) = false := by simp; omega
  have HT := hide ht
  have H0 := hide h0
  clear ht h0
  go_enter Tryd.func4, Tryd.ntmps4
  go_wp2_with fail
  refine (awake_any _ HT.out).mono ?_
  rintro e wa ⟨rfl, ca⟩
  go_wp2_with fail
  refine (ms_new 4096 _).mono ?_
  rintro e w1 ⟨rfl, hm, c1⟩
  rw [show clamp 4096 = 4096 from rfl] at hm
  have cc := ca.trans c1
  have HG := hide ca.size
  generalize wa.heap.size + 1 = p at *
  generalize wa.heap.size = g at *
  clear ca c1
  go_wp2
  go_loopw [25] (fun i wr => ∃ (k : Nat), k ≤ len ∧ i = .int .i64 k ∧ Ms wr p g 4096 (setTo no zs k) ∧ Grow w wr) (fun i _ => len - (intOf i).toNat)
  case atStart => exact ⟨0, Nat.zero_le _, rfl, hm, cc⟩
  case round =>
    clear hm cc
    obtain ⟨k, hk, rfl, hm, cc⟩ := hrel
    by_cases hlt : k < len
    · obtain ⟨ad, rfl, hcell, hwf⟩ := (H0.out.grow cc).at_ hlt
      have hzz := bounds_u16 hwf
      obtain ⟨S', hS'⟩ : ∃ S', S' = setTo no zs (k + 1) := ⟨_, rfl⟩
      have HS := hide (hS'.trans (show setTo no zs (k + 1) = setI (setTo no zs k) 4096 (zs.getD k 0) true from rfl))
      have HS' := hide hS'
      clear hS'
      generalize setTo no zs k = S at *
      generalize zs.getD k 0 = zk at *
      have vk : IntKind.i64.wrap zk = zk := wrap_i64_id _ (by omega)
      clear hzz hwf
      go_wp2_with fail
      refine (set_is hm rfl HS.out.symm).mono ?_
      rintro e w2 ⟨rfl, hm2, c2⟩
      have cc2 := cc.new HG.out c2
      clear c2 hm cc hcell
      go_wp2
      go_roundw
      case rel => exact ⟨k + 1, by omega, by go_num, hm2.at_ HS'.out.symm, cc2⟩
      case measure => simp [intOf]; omega
    · obtain rfl : len = k := by omega
      have hc200 := setTo_cnt zs len
      obtain ⟨S, hS⟩ : ∃ S, S = setTo no zs len := ⟨_, rfl⟩
      rw [← hS] at hm hc200
      have HS := hide hS
      clear hS
      have HC := hide hc200
      clear hc200
      go_wp2_with fail
      refine (next_is hm (HT.out.chg cc id) rfl).mono ?_
      rintro e w' ⟨rfl, c'⟩
      replace hm := hm.grow c'
      replace cc := cc.trans c'
      clear c'
      go_wp2
      go_loopw [9, 10, 11, 12] (fun n s l at_ wr => ∃ (t : Nat) (L : Int), t ≤ 4096 ∧ L + 1 = t ∧ n = .int .i64 (cnt S t : Nat) ∧ s = .int .i64 (cnt (rg S a b) t : Nat) ∧ l = .int .i64 L ∧ at_ = .int .i64 (nx S 4096 t) ∧ Ms wr p g 4096 S ∧ Grow w wr) (fun _ _ l _ _ => (4096 - intOf l).toNat)
      case atStart => exact ⟨0, -1, by omega, rfl, rfl, rfl, rfl, rfl, hm, cc⟩
      case round =>
        clear hm cc
        obtain ⟨t, L, ht, hL, rfl, rfl, rfl, rfl, hm, cc⟩ := hrel
        rcases nx_cases S 4096 t with ⟨hn, hno⟩ | ⟨j, hn, hj0, hj, hsj, hbe⟩
        · rw [hn]
          rw [Int.toNat_natCast] at hno
          have e1 : cnt S 4096 = cnt S t := cnt_upto ht hno
          have e2 : ((btw S 4096 a b : Nat) : Int) = ((cnt (rg S a b) t : Nat) : Int) := by
            rw [btw_range, show cnt (fun i => S i && decide (a ≤ (i : Int) ∧ (i : Int) < b)) 4096 = cnt (rg S a b) t from cnt_upto ht fun k h1 h2 => rg_no (hno k h1 h2)]
          have HE1 := hide fun W (h : Ms W p g 4096 S) => count_is (v := (cnt S t : Nat)) h (by rw [e1])
          have HE2 := hide fun W (h : Ms W p g 4096 S) => between_is (a := a) (b := b) h e2
          clear e1 e2 hno hn
          generalize cnt S t = n1 at *
          generalize cnt (rg S a b) t = s1 at *
          generalize nx S 4096 0 = z0 at *
          go_wp2
          go_loopw [72] (fun i wr => ∃ (k : Nat), k ≤ len ∧ i = .int .i64 k ∧ Ms wr p g 4096 S ∧ Grow w wr) (fun i _ => len - (intOf i).toNat)
          case atStart => exact ⟨0, Nat.zero_le _, rfl, hm, cc⟩
          case round =>
            clear hm cc
            obtain ⟨k, hk, rfl, hm, cc⟩ := hrel
            by_cases hlt : k < len
            · obtain ⟨ad, rfl, hcell, hwf⟩ := (H0.out.grow cc).at_ hlt
              have hzz := bounds_u16 hwf
              have hh := setTo_has (S := no) (k := len) hlt hzz.1
              rw [← HS.out] at hh
              generalize zs.getD k 0 = zk at *
              have vk : IntKind.i64.wrap zk = zk := wrap_i64_id _ (by omega)
              by_cases hz4 : zk < 4096
              · have hzl : decide (zk < 4096) = true := decide_eq_true hz4
                rw [hzl] at hh
                have HH := hide fun W (h : Ms W p g 4096 S) => has_is (i := zk) h hh
                have HM := hide hm
                clear hzz hwf hh
                go_wp2_with fail
                refine wp_region_grow (by kernel_rfl) (by kernel_rfl) ?_
                repeat (
                  with_reducible refine wpQuiet_step ?_
                  intro K hK
                  first
                    | ((with_reducible refine quiet_offT rfl ?_ (hK _ ?_)); focus (refine ⟨_, rfl, ?_⟩; with_reducible rfl))
                    | ((with_reducible refine quiet_offF rfl ?_ (hK _ ?_)); focus (refine ⟨_, rfl, ?_⟩; with_reducible rfl))
                    | ((with_reducible refine quiet_offN rfl ?_ (hK _ ?_)); focus (exact rfl))
                    | ((first | with_reducible refine quiet_free rfl ?_ | ((with_reducible refine quiet_on rfl ?_ ?_); focus (refine ⟨_, rfl, ?_⟩; with_reducible rfl)))
                       apply Exists.intro
                       refine ⟨fun W hW => ?_, hK _ ?_⟩
                       focus (have q0 := Grow.cell hW hcell; go_simp; first | done | with_reducible rfl | (go_at_call 16; (first | with_reducible exact grown_call hW (HH.out _ (HM.out.grow hW)) | with_reducible exact grown_same hW (HH.out _ (HM.out.grow hW))))))
                  clear hK K
                  simp only [Act.put, List.setIfInBounds_toArray, List.set_cons_zero, List.set_cons_succ])
                with_reducible refine wpQuiet_nil ?_
                intro wb cb
                replace hm := HM.out.grow cb
                replace cc := cc.trans cb
                clear HM cb hcell
                go_wp2
                go_roundw
                case rel => exact ⟨k + 1, by omega, by go_num, hm, cc⟩
                case measure => simp [intOf]; omega
              · have hzl : decide (zk < 4096) = false := decide_eq_false hz4
                rw [hzl] at hh
                have HH := hide fun W (h : Ms W p g 4096 S) => has_is (i := zk) h hh
                have HM := hide hm
                clear hzz hwf hh
                go_wp2_with fail
                refine wp_region_grow (by kernel_rfl) (by kernel_rfl) ?_
                repeat (
                  with_reducible refine wpQuiet_step ?_
                  intro K hK
                  first
                    | ((with_reducible refine quiet_offT rfl ?_ (hK _ ?_)); focus (refine ⟨_, rfl, ?_⟩; with_reducible rfl))
                    | ((with_reducible refine quiet_offF rfl ?_ (hK _ ?_)); focus (refine ⟨_, rfl, ?_⟩; with_reducible rfl))
                    | ((with_reducible refine quiet_offN rfl ?_ (hK _ ?_)); focus (exact rfl))
                    | ((first | with_reducible refine quiet_free rfl ?_ | ((with_reducible refine quiet_on rfl ?_ ?_); focus (refine ⟨_, rfl, ?_⟩; with_reducible rfl)))
                       apply Exists.intro
                       refine ⟨fun W hW => ?_, hK _ ?_⟩
                       focus (have q0 := Grow.cell hW hcell; go_simp; first | done | with_reducible rfl | (go_at_call 16; (first | with_reducible exact grown_call hW (HH.out _ (HM.out.grow hW)) | with_reducible exact grown_same hW (HH.out _ (HM.out.grow hW))))))
                  clear hK K
                  simp only [Act.put, List.setIfInBounds_toArray, List.set_cons_zero, List.set_cons_succ])
                with_reducible refine wpQuiet_nil ?_
                intro wb cb
                replace hm := HM.out.grow cb
                replace cc := cc.trans cb
                clear HM cb hcell
                go_wp2
                go_roundw
                case rel => exact ⟨k + 1, by omega, by go_num, hm, cc⟩
                case measure => simp [intOf]; omega
            · obtain rfl : len = k := by omega
              go_wp2_with fail
              refine (HE1.out _ hm).mono ?_
              rintro e w' ⟨rfl, c'⟩
              replace hm := hm.grow c'
              replace cc := cc.trans c'
              clear c'
              go_wp2_with fail
              refine (HE2.out _ hm).mono ?_
              rintro e w' ⟨rfl, c'⟩
              replace hm := hm.grow c'
              replace cc := cc.trans c'
              clear c'
              go_wp2
              go_ret
              exact ⟨rfl, cc.under⟩
        · rw [hn]
          rw [Int.toNat_natCast] at hj0 hbe
          have q0 := cnt_mono S ht
          have q1 : decide ((j : Int) ≤ L) = false := by simp; omega
          have q2 : decide ((200 : Int) < ((cnt S t : Nat) : Int)) = false := by have := HC.out; simp; omega
          have q3 := cnt_le (rg S a b) t
          have HN := hide (step_in hj0 hsj hbe)
          have HR := hide (show cnt (rg S a b) (j + 1) = cnt (rg S a b) t + if a ≤ (j : Int) ∧ (j : Int) < b then 1 else 0 from by
            split
            · rename_i h; exact step_in hj0 (rg_in hsj h) fun k h1 h2 => rg_no (hbe k h1 h2)
            · rename_i h; exact step_out hj0 (rg_out h) fun k h1 h2 => rg_no (hbe k h1 h2))
          have q4 : cnt S t ≤ 4096 := Nat.le_trans (cnt_le S t) ht
          generalize cnt S t = n1 at *
          generalize cnt (rg S a b) t = s1 at *
          generalize nx S 4096 0 = z0 at *
          have HJ := hide hj
          have HL := hide hL
          have HT2 := hide (show t ≤ j from hj0)
          have w1 : IntKind.i64.wrap ((n1 : Int) + 1) = (n1 : Int) + 1 := wrap_i64_id _ (by omega)
          have w2 : IntKind.i64.wrap ((s1 : Int) + 1) = (s1 : Int) + 1 := wrap_i64_id _ (by omega)
          obtain ⟨j1, hj1⟩ : ∃ j1, j1 = j + 1 := ⟨_, rfl⟩
          have w3 : IntKind.i64.wrap ((j : Int) + 1) = (j1 : Int) := by rw [wrap_i64_id _ (by omega)]; omega
          have w4 : wrap64 ((j : Int) + 1) = (j1 : Int) := by rw [wrap64_id _ (by omega)]; omega
          have HJ1 := hide hj1
          have HH := hide fun W (h : Ms W p g 4096 S) => has_is (i := j) (c := true) h (by unfold hasI; rw [exB_in hj, Int.toNat_natCast, hsj]; rfl)
          have HNX := hide fun W (h : Ms W p g 4096 S) ht => next_is (i := j1) h ht rfl
          have hd0 : decide ((0 : Int) ≤ (j : Int)) = true := by simp
          clear hn hbe hsj hL hj0 hj1 q0
          by_cases ha : a ≤ (j : Int)
          · have ha1 : decide (a ≤ (j : Int)) = true := decide_eq_true ha
            by_cases hb : (j : Int) < b
            · have hb1 : decide ((j : Int) < b) = true := decide_eq_true hb
              as_aux_lemma =>
              go_wp2_with fail
              refine (HH.out _ hm).mono ?_
              rintro e w' ⟨rfl, c'⟩
              replace hm := hm.grow c'
              replace cc := cc.trans c'
              clear c'
              go_wp2_with fail
              refine (HNX.out _ hm (HT.out.chg cc id)).mono ?_
              rintro e w' ⟨rfl, c'⟩
              replace hm := hm.grow c'
              replace cc := cc.trans c'
              clear c'
              go_wp2
              go_roundw
              case rel =>
                have e3 : (j : Int) + 1 = (j1 : Int) := by have := HJ1.out; omega
                have e4 : j1 ≤ 4096 := by have := HJ.out; have := HJ1.out; omega
                have e5 : (if a ≤ (j : Int) ∧ (j : Int) < b then 1 else 0) = 1 := by first | exact if_pos (by omega) | exact if_neg (by omega)
                have e1 : cnt S j1 = n1 + 1 := by rw [HJ1.out]; exact HN.out
                have e2 : cnt (rg S a b) j1 = s1 + 1 := by rw [HJ1.out, HR.out, e5]
                exact ⟨j1, j, e4, e3, sum_cast1 e1, sum_cast1 e2, rfl, rfl, hm, cc⟩
              case measure => have := HJ.out; have := HL.out; have := HT2.out; simp [intOf]; omega
            · have hb1 : decide ((j : Int) < b) = false := decide_eq_false hb
              as_aux_lemma =>
              go_wp2_with fail
              refine (HH.out _ hm).mono ?_
              rintro e w' ⟨rfl, c'⟩
              replace hm := hm.grow c'
              replace cc := cc.trans c'
              clear c'
              go_wp2_with fail
              refine (HNX.out _ hm (HT.out.chg cc id)).mono ?_
              rintro e w' ⟨rfl, c'⟩
              replace hm := hm.grow c'
              replace cc := cc.trans c'
              clear c'
              go_wp2
              go_roundw
              case rel =>
                have e3 : (j : Int) + 1 = (j1 : Int) := by have := HJ1.out; omega
                have e4 : j1 ≤ 4096 := by have := HJ.out; have := HJ1.out; omega
                have e5 : (if a ≤ (j : Int) ∧ (j : Int) < b then 1 else 0) = 0 := by first | exact if_pos (by omega) | exact if_neg (by omega)
                have e1 : cnt S j1 = n1 + 1 := by rw [HJ1.out]; exact HN.out
                have e2 : cnt (rg S a b) j1 = s1 + 0 := by rw [HJ1.out, HR.out, e5]
                exact ⟨j1, j, e4, e3, sum_cast1 e1, same_cast e2, rfl, rfl, hm, cc⟩
              case measure => have := HJ.out; have := HL.out; have := HT2.out; simp [intOf]; omega
          · have ha1 : decide (a ≤ (j : Int)) = false := decide_eq_false ha
            as_aux_lemma =>
            go_wp2_with fail
            refine (HH.out _ hm).mono ?_
            rintro e w' ⟨rfl, c'⟩
            replace hm := hm.grow c'
            replace cc := cc.trans c'
            clear c'
            go_wp2_with fail
            refine (HNX.out _ hm (HT.out.chg cc id)).mono ?_
            rintro e w' ⟨rfl, c'⟩
            replace hm := hm.grow c'
            replace cc := cc.trans c'
            clear c'
            go_wp2
            go_roundw
            case rel =>
              have e3 : (j : Int) + 1 = (j1 : Int) := by have := HJ1.out; omega
              have e4 : j1 ≤ 4096 := by have := HJ.out; have := HJ1.out; omega
              have e5 : (if a ≤ (j : Int) ∧ (j : Int) < b then 1 else 0) = 0 := by first | exact if_pos (by omega) | exact if_neg (by omega)
              have e1 : cnt S j1 = n1 + 1 := by rw [HJ1.out]; exact HN.out
              have e2 : cnt (rg S a b) j1 = s1 + 0 := by rw [HJ1.out, HR.out, e5]
              exact ⟨j1, j, e4, e3, sum_cast1 e1, same_cast e2, rfl, rfl, hm, cc⟩
            case measure => have := HJ.out; have := HL.out; have := HT2.out; simp [intOf]; omega

theorem walk (a1 : Option Addr) (len cap : Nat) (zs : List Int) (a b : Int) (w : World) (ht : Tab w) (h0 : IsRow .u16 w a1 len cap zs) (w1 : (Lit.int .i64 a).wf = true) (w2 : (Lit.int .i64 b).wf = true) :
    Calls Tryd.prog 4 #[.slice a1 len cap, .int .i64 a, .int .i64 b] w fun e w' => e = .returned (.bool true) ∧ Below w.heap.size w w' := by
  by_cases h : 200 < len
  · exact walk_long a1 len cap a b w ht h
  · exact walk_main a1 len cap zs a b w ht h0 (by omega)

theorem own : ownKnob Tryd.prog.godebug = none := by kernel_rfl
theorem laidOut : laidOutB Tryd.prog = true := by kernel_rfl
theorem door_met (os : Os) (args : Array Value) : laidMetH Tryd.prog Rows.bitsWalkRow.laid ((World.doorLaid Tryd.prog 400 os).forCall (fun _ _ => 0) ⟨#[], args, []⟩).memory :=
  laidMetH_of_parts3 (fuel := 8) (laidMet_of_run' 8 (by kernel_rfl) (by kernel_rfl)) (by kernel_rfl) (by kernel_rfl)

set_option maxRecDepth 100000 in
theorem lifted (os : Os) (started : os.Started) (H : Type) (enc : TypeId × Value → H) :
    ReturnsInHanded {} Tryd.checked os 4 .any (fun w args => (Rows.bitsWalkSpec.pre enc Tryd.prog Tryd.f4 [] false w args ∧ laidMetH Tryd.prog Rows.bitsWalkRow.laid w) ∧ sizedMet enc Tryd.prog Tryd.f4 (OpenSpec.ofChange Rows.bitsWalkSpec) false w args) (Rows.bitsWalkSpec.post enc Tryd.prog Tryd.f4 false true false false) := by
  refine returnsInHanded_of_change_and (C := Tryd.checked) (X := fun w _ => laidMetH Tryd.prog Rows.bitsWalkRow.laid w) (fun _ _ _ hh h => h.of_heap hh) own started (by kernel_rfl) Tryd.func4
    (ChangeSpec.witness_shaped (enc := enc) (C := Tryd.checked) (os := os) (X := fun w _ => laidMetH Tryd.prog Rows.bitsWalkRow.laid w) false (World.doorLaid Tryd.prog 400 os) #[.slice none 0 0, .int .i64 0, .int .i64 0] 8 rfl (World.shaped_of_RefB (by kernel_rfl) (by kernel_rfl)) (by kernel_rfl) (by kernel_rfl) (by kernel_rfl) (door_met os _)) ?_
  intro W base args ds gs before hval0 hW _ _ hL _
  have hval : ∀ (j : Nat) t v, Tryd.f4.params[j]? = some t → args[j]? = some v → Value.okWide Tryd.prog W .any base t v := hval0
  have hW' := hW
  obtain ⟨p, q, hA0, hV, rfl, hfz, hnd⟩ := hW
  have hA : DataW.TrodAll enc Tryd.prog W 0 (fun _ => true) true Tryd.f4.params.toList args.toList ds p := hA0
  rw [Tryd.params4] at hA hval
  obtain ⟨v0, vs0, d0, ds0, p0, q0, hargs, rfl, rfl, h0, r0⟩ := trodAll_cons hA
  obtain ⟨v1, vs1, d1, ds1, p1, q1, rfl, rfl, rfl, h1, r1⟩ := trodAll_cons r0
  obtain ⟨v2, vs2, d2, ds2, p2, q2, rfl, rfl, rfl, h2, r2⟩ := trodAll_cons r1
  obtain ⟨rfl, rfl, rfl⟩ := trodAll_nil r2
  obtain rfl : args = #[v0, v1, v2] := by cases args; simp_all
  obtain ⟨rfl, rfl⟩ := trodVars_none hV
  obtain ⟨a0, len0, cap0, rfl⟩ := okWide_slice Tryd.underlying39 (hval 0 39 v0 rfl rfl)
  have k0 := h0
  have lt0 : ∀ x ∈ p0, x.block < W.heap.size := by obtain ⟨m, hm⟩ := k0; exact DataW.trod_lt m _ _ _ hm
  obtain ⟨z0, w0⟩ : ∃ zs, IsRow .u16 W a0 len0 cap0 zs := open_row Tryd.underlying39 Tryd.underlying40 (by kernel_rfl) h0
  obtain ⟨a1, rfl, rfl, rfl, w1⟩ := open_int Tryd.underlying3 (hval 1 3 v1 rfl rfl) h1
  obtain ⟨a2, rfl, rfl, rfl, w2⟩ := open_int Tryd.underlying3 (hval 2 3 v2 rfl rfl) h2
  clear hA0 hval0
  refine (walk a0 len0 cap0 z0 a1 a2 W (tab_of_laid hL) w0 w1 w2).mono fun e W' ⟨he, bel⟩ => ?_
  subst he
  exact ⟨_, rfl, _, _, _, [], _, [], hW', trodAll_mk1 (shut_bool Tryd.underlying4 _), (trodAll_cons_mk (Below.trod laidOut (by kernel_rfl) (of_decide_eq_true (by kernel_rfl)) k0 bel lt0) (trodAll_cons_mk (shut_int Tryd.underlying3 w1) (trodAll_cons_mk (shut_int Tryd.underlying3 w2) trodAll_mk0))), rfl, bel.frame _, fun h => by cases h⟩

theorem over : Rows.bitsWalkRow.holds Tryd.pinned (OpenSpec.ofChange Rows.bitsWalkSpec) :=
  OpenClaim.holds_of_wide 4 Tryd.f4 rfl rfl rfl rfl rfl rfl rfl ⟨rfl, rfl, rfl, rfl, rfl⟩ rfl rfl rfl rfl rfl (by kernel_rfl) Tryd.func4 (by kernel_rfl)
    (of_decide_eq_true (by kernel_rfl)) (by unfold Func.isWrapper; first | (rw [if_pos (by decide +kernel)]; kernel_rfl) | (rw [if_neg (by decide +kernel)]; exact ⟨rfl, rfl⟩))
    (fun os started H enc _ => lifted os started H enc)

/-- The statement. -/
theorem proved : Rows.BitsWalkCardSaid :=
  Claim7.holds_tied_plain_at .later [] [.data] true Rows.bitsWalkCard.stood.harness false
    over (fun _ h => by cases h) (by kernel_rfl) (fun _ h => by cases h) bitsWalk_row_tie rfl ⟨rfl, rfl⟩ (by kernel_rfl) rfl
    (fun f fn hf hfn => by
      obtain rfl : f = 4 := Option.some.inj ((show Tryd.prog.funcNamed "gleaning/gleaninglaw03.BitsWalk" = some 4 by kernel_rfl).symm.trans hf) |>.symm
      obtain rfl : fn = Tryd.f4 := (Option.some.inj (Tryd.func4.symm.trans hfn)).symm
      exact ⟨by kernel_rfl, fun j t ht => by
        rw [Tryd.params4] at ht
        have hm : t ∈ [39, 3, 3] := by simpa using Array.mem_of_getElem? ht
        have hall : ([39, 3, 3].all fun u => !Tryd.prog.wantsStandIn u) = true := by kernel_rfl
        exact (show Tryd.prog.wantsStandIn t = false by simpa using List.all_eq_true.1 hall t hm)⟩)
    (by kernel_rfl)
#print axioms proved
end Go.Proofs.YtobecefikkgelaaDoor.bitsWalk

