/- For all sizes and all lists of calls BitsPlay answers true: whatever is set, cleared and looked for, each answer is the plain map's. Conditions: the table of math/bits.TrailingZeros64 is as the program's text lays it, which the card ties. -/
import Derived.Test.YtobecefikkgelaaDoorRef03
import Derived.Test.YtobecefikkgelaaDoorOpen
import Derived.Test.YtobecefikkgelaaDoorCards
import Derived.Test.YtobecefikkgelaaDoorTie
import Derived.SevenTiedAt
import Derived.Stop.Joined
import Derived.ShutString
import Derived.Deep.RegionHeld3
namespace Go.Proofs.YtobecefikkgelaaDoor.bitsPlay
open Go.ChangeShapes Go.WideShapes Go.ChangeAt Go.RowKit Go.Deep
set_option linter.unusedVariables false

set_option maxHeartbeats 1000000 in
set_option maxRecDepth 100000 in
theorem walk_long (v : Int) (a1 : Option Addr) (len cap : Nat) (w : World) (ht : Tab w) (h : 200 < len) :
    Calls Tryd.prog 3 #[.int .i64 v, .slice a1 len cap] w fun e w' => e = .returned (.bool true) ∧ Below w.heap.size w w' := by
  have HT := hide ht
  clear ht
  go_enter Tryd.func3, Tryd.ntmps3
  go_wp2_with fail
  refine (awake_any _ HT.out).mono ?_
  rintro e wa ⟨rfl, ca⟩
  go_wp2_with fail
  refine (awake_any _ (HT.out.chg ca id)).mono ?_
  rintro e wb ⟨rfl, cb⟩
  go_wp2
  go_ret
  exact ⟨rfl, (ca.trans cb).under⟩

abbrev OpK : List (Option IntKind) := [some .i64, some .i64, some .i64]

/-- What holds of both maps. -/
structure Both (w : World) (n p g q f : Nat) (S : Nat → Bool) (wr : World) : Prop where
  hm : Ms wr p g n S
  hr : Rs wr q f n S
  pf : p ≠ f
  gf : g ≠ f
  gq : g ≠ q
  new : w.heap.size ≤ f
  cc : Grow w wr
theorem Both.grow {w wr wq : World} {n p g q f : Nat} {S : Nat → Bool} (h : Both w n p g q f S wr) (c : Grow wr wq) : Both w n p g q f S wq :=
  ⟨h.hm.grow c, h.hr.grow c, h.pf, h.gf, h.gq, h.new, h.cc.trans c⟩
theorem btw_all (S : Nat → Bool) (n : Nat) : btw S n 0 n = cnt S n := by
  unfold btw
  rw [show cl n (n : Int) = n by unfold cl; omega, show cl n 0 = 0 by unfold cl; omega]
  rfl
theorem keep1 {ob g : Nat} {wo W : World} {t : TypeId} {cs : List Value} (h : Blk wo ob t cs) (hne : ob ≠ g) (c : Chg (· = g) wo.drew W) (j : Nat) : W.cell? ⟨ob, j, none⟩ = cs[j]? := (h.drew.chg c hne).cell j
theorem keep2 {ob g f : Nat} {wo W W' : World} {t : TypeId} {cs : List Value} (h : Blk wo ob t cs) (hne : ob ≠ g) (hnf : ob ≠ f) (c : Chg (· = g) wo.drew W) (c' : Chg (· = f) W W') (j : Nat) : W'.cell? ⟨ob, j, none⟩ = cs[j]? := ((h.drew.chg c hne).chg c' hnf).cell j
theorem Both.two {w wo W W' : World} {n p g q f : Nat} {S T : Nat → Bool} (h : Both w n p g q f S wo) (hg : w.heap.size ≤ g) (hm : Ms W p g n T) (c : Chg (· = g) wo.drew W) (hr : Rs W' q f n T) (c' : Chg (· = f) W W') : Both w n p g q f T W' :=
  ⟨hm.chg c' h.pf h.gf, hr, h.pf, h.gf, h.gq, h.new, (h.cc.drew.new hg c).new h.new c'⟩


set_option maxHeartbeats 4000000 in
set_option maxRecDepth 100000 in
theorem walk_main (v : Int) (a1 : Option Addr) (len cap : Nat) (rows : List (List Value)) (w : World) (ht : Tab w) (h0 : IsRecs OpK w a1 len cap rows) (hlen : len ≤ 200) :
    Calls Tryd.prog 3 #[.int .i64 v, .slice a1 len cap] w fun e w' => e = .returned (.bool true) ∧ Below w.heap.size w w' := by
  obtain ⟨n, hcl⟩ : ∃ n, clamp v = n := ⟨clamp v, rfl⟩
  have HCL := hide hcl
  have H0 := hide h0
  have HT := hide ht
  clear h0 ht hcl
  have hn3 : decide ((200 : Int) < len) = false := by simp; omega
  go_enter Tryd.func3, Tryd.ntmps3
  go_wp2_with fail
  refine (awake_any _ HT.out).mono ?_
  rintro e wa ⟨rfl, ca⟩
  go_wp2_with fail
  refine (ms_new v _).mono ?_
  rintro e w1 ⟨rfl, h1, c1⟩
  rw [HCL.out] at h1
  have HG := hide ca.size
  replace ca := ca.trans c1
  have hpg : wa.heap.size + 1 = wa.heap.size + 1 := rfl
  go_wp2_with fail
  refine (rnew_any v _).mono ?_
  rintro e w2 ⟨rfl, h2, c2⟩
  rw [HCL.out] at h2
  have hp1 := h1.plt
  have hg1 := h1.glt
  have hbo : Both w n (wa.heap.size + 1) wa.heap.size (w1.heap.size + 1) w1.heap.size no w2 := ⟨h1.grow c2, h2, by omega, by omega, by omega, ca.size, ca.trans c2⟩
  have HBO := hide hbo
  clear hbo h1 h2 c1 c2 ca hp1 hg1 hpg
  generalize wa.heap.size + 1 = p at *
  generalize wa.heap.size = g at *
  generalize w1.heap.size + 1 = q at *
  generalize w1.heap.size = f at *
  have HL := hide fun W (c : Grow w2 W) => ms_len (HBO.out.hm.grow c)
  have hq := HBO.out.hr.head
  go_wp2_with fail
  refine wp_region_grow (by kernel_rfl) (by kernel_rfl) ?_
  repeat (
    with_reducible refine wpQuiet_step ?_
    intro K hK
    first
      | ((with_reducible refine quiet_offT rfl ?_ (hK _ ?_)); focus (refine ⟨_, rfl, ?_⟩; with_reducible rfl))
      | ((with_reducible refine quiet_offF rfl ?_ (hK _ ?_)); focus (refine ⟨_, rfl, ?_⟩; with_reducible rfl))
      | ((with_reducible refine quiet_offN rfl ?_ (hK _ ?_)); focus (exact rfl))
      | ((first | with_reducible refine quiet_free rfl ?_ | ((with_reducible refine quiet_on rfl ?_ ?_); focus (refine ⟨_, rfl, ?_⟩; with_reducible rfl)))
         apply Exists.intro
         refine ⟨fun W hW => ?_, hK _ ?_⟩
         focus (have q0 := Grow.cell hW hq; go_simp; first | done | with_reducible rfl | (go_at_call 12; (first | with_reducible exact grown_call hW (HL.out _ hW) | with_reducible exact grown_same hW (HL.out _ hW)))))
    clear hK K
    simp only [Act.put, List.setIfInBounds_toArray, List.set_cons_zero, List.set_cons_succ])
  with_reducible refine wpQuiet_nil ?_
  intro w3 c3
  have HB := hide (HBO.out.grow c3)
  clear HBO HL hq c3
  go_wp2
  go_loopw [6, 36] (fun wv i wr => ∃ (k q f : Nat) (S : Nat → Bool), k ≤ len ∧ i = .int .i64 k ∧ wv = ptr q ∧ Both w n p g q f S wr) (fun _ i _ => len - (intOf i).toNat)
  case atStart => exact ⟨0, q, f, no, Nat.zero_le _, rfl, rfl, HB.out⟩
  case round =>
    clear HB
    obtain ⟨k, q, f, S, hk, rfl, rfl, hb⟩ := hrel
    by_cases hlt : k < len
    · obtain ⟨b, off, rfl, hcells, hfit⟩ := (H0.out.chg hb.cc (fun i hi => id)).at_ hlt
      generalize rows.getD k [] = cs at *
      obtain ⟨K, cs, rfl, hK, hfit⟩ := fits_int hfit
      obtain ⟨A, cs, rfl, hA, hfit⟩ := fits_int hfit
      obtain ⟨B, cs, rfl, hB, hfit⟩ := fits_int hfit
      obtain rfl := fits_nil hfit
      clear hfit
      have x0 : wr.cell? ⟨b, off + k * 3, none⟩ = some (.int .i64 K) := hcells 0 _ rfl
      have x1 : wr.cell? ⟨b, off + k * 3 + 1, none⟩ = some (.int .i64 A) := hcells 1 _ rfl
      have x2 : wr.cell? ⟨b, off + k * 3 + 2, none⟩ = some (.int .i64 B) := hcells 2 _ rfl
      clear hcells hK hA hB
      have hob := Blk.new wr 33 [.int .i64 K, .int .i64 A, .int .i64 B]
      have HBO := hide (hb.grow (Grow.box wr (.cells [.int .i64 K, .int .i64 A, .int .i64 B].toArray 33)))
      have hog := hide (Nat.ne_of_gt hb.hm.glt)
      have hof := hide (Nat.ne_of_gt hb.hr.2.2.lt)
      by_cases k1 : K = 1
      · as_aux_lemma =>
        subst k1
        go_wp2_with fail
        generalize wr.alloc (.cells #[.int .i64 1, .int .i64 A, .int .i64 B] 33) = wo at *
        generalize wr.heap.size = ob at *
        clear x0 x1 x2 hb
        have y1 : wo.cell? ⟨ob, 1, none⟩ = some (.int .i64 A) := hob.cell 1
        obtain ⟨bb, hbb⟩ : ∃ bb, (exB n A && !S A.toNat) = bb := ⟨_, rfl⟩
        have hbb2 : (exB n A && !(S A.toNat == true)) = bb := by rw [← hbb]; cases S A.toNat <;> rfl
        have HS1 := hide (set_is (HBO.out.hm.grow (Chg.refl _ wo).drew) hbb rfl)
        have HS2 := hide (fun W (c : Chg (· = g) wo.drew W) => hbb2 ▸ rput_any A true ((HBO.out.hr.grow (Chg.refl _ wo).drew).chg c (Ne.symm HBO.out.gq) (Ne.symm HBO.out.gf)))
        have HK1 := hide (fun W (c : Chg (· = g) wo.drew W) => (keep1 hob hog.out c 1 : (fun w' : World => w'.cell? ⟨ob, 1, none⟩ = some (.int .i64 A)) W))
        have HK2 := hide (fun W W' (c : Chg (· = g) wo.drew W) (c' : Chg (· = f) W W') => (keep2 hob hog.out hof.out c c' 1 : (fun w' : World => w'.cell? ⟨ob, 1, none⟩ = some (.int .i64 A)) W'))
        clear hob hbb hbb2
        go_region_held3 (fun w' => w'.cell? ⟨ob, 1, none⟩ = some (.int .i64 A)) (first | exact HK2.out _ _ c3 c4 | exact HK1.out _ c3 | go_keep) (first | (go_at_call 13; refine HS1.out.mono ?_; rintro e w3 ⟨rfl, h3, c3⟩) | (go_at_call 14; refine (HS2.out _ c3).mono ?_; rintro e w4 ⟨rfl, h4, c4⟩))
        have HBN := hide (HBO.out.two HG.out h3 c3 h4 c4)
        clear h3 c3 h4 c4 HS1 HS2 HK1 HK2 HBO y1
        have HC := hide fun W (c : Grow w4 W) => count_is (v := (cnt (setI S n A true) n : Nat)) (HBN.out.hm.grow c) rfl
        have HR := hide fun W (c : Grow w4 W) => rbetween_any 0 n (HBN.out.hr.grow c)
        rw [btw_all] at HR
        have hq := HBN.out.hr.head
        generalize cnt (setI S n A true) n = c0 at *
        go_wp2_with fail
        refine wp_region_grow (by kernel_rfl) (by kernel_rfl) ?_
        repeat (
          with_reducible refine wpQuiet_step ?_
          intro K hK
          first
            | ((with_reducible refine quiet_offT rfl ?_ (hK _ ?_)); focus (refine ⟨_, rfl, ?_⟩; with_reducible rfl))
            | ((with_reducible refine quiet_offF rfl ?_ (hK _ ?_)); focus (refine ⟨_, rfl, ?_⟩; with_reducible rfl))
            | ((with_reducible refine quiet_offN rfl ?_ (hK _ ?_)); focus (exact rfl))
            | ((first | with_reducible refine quiet_free rfl ?_ | ((with_reducible refine quiet_on rfl ?_ ?_); focus (refine ⟨_, rfl, ?_⟩; with_reducible rfl)))
               apply Exists.intro
               refine ⟨fun W hW => ?_, hK _ ?_⟩
               focus (have q0 := Grow.cell hW hq; go_simp; first | done | with_reducible rfl | (go_at_call 23; (first | with_reducible exact grown_call hW (HC.out _ hW) | with_reducible exact grown_same hW (HC.out _ hW))) | (go_at_call 21; (first | with_reducible exact grown_call hW (HR.out _ hW) | with_reducible exact grown_same hW (HR.out _ hW)))))
          clear hK K
          simp only [Act.put, List.setIfInBounds_toArray, List.set_cons_zero, List.set_cons_succ])
        with_reducible refine wpQuiet_nil ?_
        intro wz cz
        have HB2 := hide (HBN.out.grow cz)
        clear HBN HC HR hq cz
        go_wp2
        go_roundw
        case rel => exact ⟨k + 1, q, f, _, by omega, by go_num, rfl, HB2.out⟩
        case measure => simp [intOf]; omega
      by_cases k2 : K = 2
      · as_aux_lemma =>
        clear k1
        subst k2
        go_wp2_with fail
        generalize wr.alloc (.cells #[.int .i64 2, .int .i64 A, .int .i64 B] 33) = wo at *
        generalize wr.heap.size = ob at *
        clear x0 x1 x2 hb
        have y1 : wo.cell? ⟨ob, 1, none⟩ = some (.int .i64 A) := hob.cell 1
        obtain ⟨bb, hbb⟩ : ∃ bb, hasI S n A = bb := ⟨_, rfl⟩
        have hbb2 : (exB n A && !(S A.toNat == false)) = bb := by rw [← hbb]; unfold hasI; cases S A.toNat <;> rfl
        have HS1 := hide (clear_is (HBO.out.hm.grow (Chg.refl _ wo).drew) hbb rfl)
        have HS2 := hide (fun W (c : Chg (· = g) wo.drew W) => hbb2 ▸ rput_any A false ((HBO.out.hr.grow (Chg.refl _ wo).drew).chg c (Ne.symm HBO.out.gq) (Ne.symm HBO.out.gf)))
        have HK1 := hide (fun W (c : Chg (· = g) wo.drew W) => (keep1 hob hog.out c 1 : (fun w' : World => w'.cell? ⟨ob, 1, none⟩ = some (.int .i64 A)) W))
        have HK2 := hide (fun W W' (c : Chg (· = g) wo.drew W) (c' : Chg (· = f) W W') => (keep2 hob hog.out hof.out c c' 1 : (fun w' : World => w'.cell? ⟨ob, 1, none⟩ = some (.int .i64 A)) W'))
        clear hob hbb hbb2
        go_region_held3 (fun w' => w'.cell? ⟨ob, 1, none⟩ = some (.int .i64 A)) (first | exact HK2.out _ _ c3 c4 | exact HK1.out _ c3 | go_keep) (first | (go_at_call 15; refine HS1.out.mono ?_; rintro e w3 ⟨rfl, h3, c3⟩) | (go_at_call 14; refine (HS2.out _ c3).mono ?_; rintro e w4 ⟨rfl, h4, c4⟩))
        have HBN := hide (HBO.out.two HG.out h3 c3 h4 c4)
        clear h3 c3 h4 c4 HS1 HS2 HK1 HK2 HBO y1
        have HC := hide fun W (c : Grow w4 W) => count_is (v := (cnt (setI S n A false) n : Nat)) (HBN.out.hm.grow c) rfl
        have HR := hide fun W (c : Grow w4 W) => rbetween_any 0 n (HBN.out.hr.grow c)
        rw [btw_all] at HR
        have hq := HBN.out.hr.head
        generalize cnt (setI S n A false) n = c0 at *
        go_wp2_with fail
        refine wp_region_grow (by kernel_rfl) (by kernel_rfl) ?_
        repeat (
          with_reducible refine wpQuiet_step ?_
          intro K hK
          first
            | ((with_reducible refine quiet_offT rfl ?_ (hK _ ?_)); focus (refine ⟨_, rfl, ?_⟩; with_reducible rfl))
            | ((with_reducible refine quiet_offF rfl ?_ (hK _ ?_)); focus (refine ⟨_, rfl, ?_⟩; with_reducible rfl))
            | ((with_reducible refine quiet_offN rfl ?_ (hK _ ?_)); focus (exact rfl))
            | ((first | with_reducible refine quiet_free rfl ?_ | ((with_reducible refine quiet_on rfl ?_ ?_); focus (refine ⟨_, rfl, ?_⟩; with_reducible rfl)))
               apply Exists.intro
               refine ⟨fun W hW => ?_, hK _ ?_⟩
               focus (have q0 := Grow.cell hW hq; go_simp; first | done | with_reducible rfl | (go_at_call 23; (first | with_reducible exact grown_call hW (HC.out _ hW) | with_reducible exact grown_same hW (HC.out _ hW))) | (go_at_call 21; (first | with_reducible exact grown_call hW (HR.out _ hW) | with_reducible exact grown_same hW (HR.out _ hW)))))
          clear hK K
          simp only [Act.put, List.setIfInBounds_toArray, List.set_cons_zero, List.set_cons_succ])
        with_reducible refine wpQuiet_nil ?_
        intro wz cz
        have HB2 := hide (HBN.out.grow cz)
        clear HBN HC HR hq cz
        go_wp2
        go_roundw
        case rel => exact ⟨k + 1, q, f, _, by omega, by go_num, rfl, HB2.out⟩
        case measure => simp [intOf]; omega
      by_cases k3 : K = 3
      · as_aux_lemma =>
        clear k1 k2
        subst k3
        go_wp2_with fail
        generalize wr.alloc (.cells #[.int .i64 3, .int .i64 A, .int .i64 B] 33) = wo at *
        generalize wr.heap.size = ob at *
        clear x0 x1 x2 hb
        have y1 : wo.cell? ⟨ob, 1, none⟩ = some (.int .i64 A) := hob.cell 1
        have H1 := hide fun W (c : Grow wo W) => ms_has A (HBO.out.hm.grow c)
        have H2 := hide fun W (c : Grow wo W) => rhas_any A (HBO.out.hr.grow c)
        generalize hasI S n A = bb at *
        clear hob hog hof
        refine wp_region_grow (by kernel_rfl) (by kernel_rfl) ?_
        repeat (
          with_reducible refine wpQuiet_step ?_
          intro K hK
          first
            | ((with_reducible refine quiet_offT rfl ?_ (hK _ ?_)); focus (refine ⟨_, rfl, ?_⟩; with_reducible rfl))
            | ((with_reducible refine quiet_offF rfl ?_ (hK _ ?_)); focus (refine ⟨_, rfl, ?_⟩; with_reducible rfl))
            | ((with_reducible refine quiet_offN rfl ?_ (hK _ ?_)); focus (exact rfl))
            | ((first | with_reducible refine quiet_free rfl ?_ | ((with_reducible refine quiet_on rfl ?_ ?_); focus (refine ⟨_, rfl, ?_⟩; with_reducible rfl)))
               apply Exists.intro
               refine ⟨fun W hW => ?_, hK _ ?_⟩
               focus (have q0 := Grow.cell hW y1; go_simp; first | done | with_reducible rfl | (go_at_call 16; (first | with_reducible exact grown_call hW (H1.out _ hW) | with_reducible exact grown_same hW (H1.out _ hW))) | (go_at_call 17; (first | with_reducible exact grown_call hW (H2.out _ hW) | with_reducible exact grown_same hW (H2.out _ hW)))))
          clear hK K
          simp only [Act.put, List.setIfInBounds_toArray, List.set_cons_zero, List.set_cons_succ])
        with_reducible refine wpQuiet_nil ?_
        intro w4 c4
        have HBN := hide (HBO.out.grow c4)
        clear H1 H2 HBO y1 c4
        have HC := hide fun W (c : Grow w4 W) => count_is (v := (cnt S n : Nat)) (HBN.out.hm.grow c) rfl
        have HR := hide fun W (c : Grow w4 W) => rbetween_any 0 n (HBN.out.hr.grow c)
        rw [btw_all] at HR
        have hq := HBN.out.hr.head
        generalize cnt S n = c0 at *
        go_wp2_with fail
        refine wp_region_grow (by kernel_rfl) (by kernel_rfl) ?_
        repeat (
          with_reducible refine wpQuiet_step ?_
          intro K hK
          first
            | ((with_reducible refine quiet_offT rfl ?_ (hK _ ?_)); focus (refine ⟨_, rfl, ?_⟩; with_reducible rfl))
            | ((with_reducible refine quiet_offF rfl ?_ (hK _ ?_)); focus (refine ⟨_, rfl, ?_⟩; with_reducible rfl))
            | ((with_reducible refine quiet_offN rfl ?_ (hK _ ?_)); focus (exact rfl))
            | ((first | with_reducible refine quiet_free rfl ?_ | ((with_reducible refine quiet_on rfl ?_ ?_); focus (refine ⟨_, rfl, ?_⟩; with_reducible rfl)))
               apply Exists.intro
               refine ⟨fun W hW => ?_, hK _ ?_⟩
               focus (have q0 := Grow.cell hW hq; go_simp; first | done | with_reducible rfl | (go_at_call 23; (first | with_reducible exact grown_call hW (HC.out _ hW) | with_reducible exact grown_same hW (HC.out _ hW))) | (go_at_call 21; (first | with_reducible exact grown_call hW (HR.out _ hW) | with_reducible exact grown_same hW (HR.out _ hW)))))
          clear hK K
          simp only [Act.put, List.setIfInBounds_toArray, List.set_cons_zero, List.set_cons_succ])
        with_reducible refine wpQuiet_nil ?_
        intro wz cz
        have HB2 := hide (HBN.out.grow cz)
        clear HBN HC HR hq cz
        go_wp2
        go_roundw
        case rel => exact ⟨k + 1, q, f, _, by omega, by go_num, rfl, HB2.out⟩
        case measure => simp [intOf]; omega
      by_cases k4 : K = 4
      · as_aux_lemma =>
        clear k1 k2 k3
        subst k4
        go_wp2_with fail
        generalize wr.alloc (.cells #[.int .i64 4, .int .i64 A, .int .i64 B] 33) = wo at *
        generalize wr.heap.size = ob at *
        clear x0 x1 x2 hb
        have y1 : wo.cell? ⟨ob, 1, none⟩ = some (.int .i64 A) := hob.cell 1
        have H1 := hide fun W (c : Grow wo W) => ms_next A (HBO.out.hm.grow c) (HT.out.chg (HBO.out.cc.trans c) id)
        have H2 := hide fun W (c : Grow wo W) => rnext_any A (HBO.out.hr.grow c)
        generalize nx S n A = z at *
        clear hob hog hof
        refine wp_region_grow (by kernel_rfl) (by kernel_rfl) ?_
        repeat (
          with_reducible refine wpQuiet_step ?_
          intro K hK
          first
            | ((with_reducible refine quiet_offT rfl ?_ (hK _ ?_)); focus (refine ⟨_, rfl, ?_⟩; with_reducible rfl))
            | ((with_reducible refine quiet_offF rfl ?_ (hK _ ?_)); focus (refine ⟨_, rfl, ?_⟩; with_reducible rfl))
            | ((with_reducible refine quiet_offN rfl ?_ (hK _ ?_)); focus (exact rfl))
            | ((first | with_reducible refine quiet_free rfl ?_ | ((with_reducible refine quiet_on rfl ?_ ?_); focus (refine ⟨_, rfl, ?_⟩; with_reducible rfl)))
               apply Exists.intro
               refine ⟨fun W hW => ?_, hK _ ?_⟩
               focus (have q0 := Grow.cell hW y1; go_simp; first | done | with_reducible rfl | (go_at_call 18; (first | with_reducible exact grown_call hW (H1.out _ hW) | with_reducible exact grown_same hW (H1.out _ hW))) | (go_at_call 19; (first | with_reducible exact grown_call hW (H2.out _ hW) | with_reducible exact grown_same hW (H2.out _ hW)))))
          clear hK K
          simp only [Act.put, List.setIfInBounds_toArray, List.set_cons_zero, List.set_cons_succ])
        with_reducible refine wpQuiet_nil ?_
        intro w4 c4
        have HBN := hide (HBO.out.grow c4)
        clear H1 H2 HBO y1 c4
        have HC := hide fun W (c : Grow w4 W) => count_is (v := (cnt S n : Nat)) (HBN.out.hm.grow c) rfl
        have HR := hide fun W (c : Grow w4 W) => rbetween_any 0 n (HBN.out.hr.grow c)
        rw [btw_all] at HR
        have hq := HBN.out.hr.head
        generalize cnt S n = c0 at *
        go_wp2_with fail
        refine wp_region_grow (by kernel_rfl) (by kernel_rfl) ?_
        repeat (
          with_reducible refine wpQuiet_step ?_
          intro K hK
          first
            | ((with_reducible refine quiet_offT rfl ?_ (hK _ ?_)); focus (refine ⟨_, rfl, ?_⟩; with_reducible rfl))
            | ((with_reducible refine quiet_offF rfl ?_ (hK _ ?_)); focus (refine ⟨_, rfl, ?_⟩; with_reducible rfl))
            | ((with_reducible refine quiet_offN rfl ?_ (hK _ ?_)); focus (exact rfl))
            | ((first | with_reducible refine quiet_free rfl ?_ | ((with_reducible refine quiet_on rfl ?_ ?_); focus (refine ⟨_, rfl, ?_⟩; with_reducible rfl)))
               apply Exists.intro
               refine ⟨fun W hW => ?_, hK _ ?_⟩
               focus (have q0 := Grow.cell hW hq; go_simp; first | done | with_reducible rfl | (go_at_call 23; (first | with_reducible exact grown_call hW (HC.out _ hW) | with_reducible exact grown_same hW (HC.out _ hW))) | (go_at_call 21; (first | with_reducible exact grown_call hW (HR.out _ hW) | with_reducible exact grown_same hW (HR.out _ hW)))))
          clear hK K
          simp only [Act.put, List.setIfInBounds_toArray, List.set_cons_zero, List.set_cons_succ])
        with_reducible refine wpQuiet_nil ?_
        intro wz cz
        have HB2 := hide (HBN.out.grow cz)
        clear HBN HC HR hq cz
        go_wp2
        go_roundw
        case rel => exact ⟨k + 1, q, f, _, by omega, by go_num, rfl, HB2.out⟩
        case measure => simp [intOf]; omega
      by_cases k5 : K = 5
      · as_aux_lemma =>
        clear k1 k2 k3 k4
        subst k5
        go_wp2_with fail
        generalize wr.alloc (.cells #[.int .i64 5, .int .i64 A, .int .i64 B] 33) = wo at *
        generalize wr.heap.size = ob at *
        clear x0 x1 x2 hb
        have y1 : wo.cell? ⟨ob, 1, none⟩ = some (.int .i64 A) := hob.cell 1
        have y2 : wo.cell? ⟨ob, 2, none⟩ = some (.int .i64 B) := hob.cell 2
        have H1 := hide fun W (c : Grow wo W) => ms_between A B (HBO.out.hm.grow c)
        have H2 := hide fun W (c : Grow wo W) => rbetween_any A B (HBO.out.hr.grow c)
        generalize btw S n A B = z at *
        clear hob hog hof
        refine wp_region_grow (by kernel_rfl) (by kernel_rfl) ?_
        repeat (
          with_reducible refine wpQuiet_step ?_
          intro K hK
          first
            | ((with_reducible refine quiet_offT rfl ?_ (hK _ ?_)); focus (refine ⟨_, rfl, ?_⟩; with_reducible rfl))
            | ((with_reducible refine quiet_offF rfl ?_ (hK _ ?_)); focus (refine ⟨_, rfl, ?_⟩; with_reducible rfl))
            | ((with_reducible refine quiet_offN rfl ?_ (hK _ ?_)); focus (exact rfl))
            | ((first | with_reducible refine quiet_free rfl ?_ | ((with_reducible refine quiet_on rfl ?_ ?_); focus (refine ⟨_, rfl, ?_⟩; with_reducible rfl)))
               apply Exists.intro
               refine ⟨fun W hW => ?_, hK _ ?_⟩
               focus (have q0 := Grow.cell hW y1; have q1 := Grow.cell hW y2; go_simp; first | done | with_reducible rfl | (go_at_call 20; (first | with_reducible exact grown_call hW (H1.out _ hW) | with_reducible exact grown_same hW (H1.out _ hW))) | (go_at_call 21; (first | with_reducible exact grown_call hW (H2.out _ hW) | with_reducible exact grown_same hW (H2.out _ hW)))))
          clear hK K
          simp only [Act.put, List.setIfInBounds_toArray, List.set_cons_zero, List.set_cons_succ])
        with_reducible refine wpQuiet_nil ?_
        intro w4 c4
        have HBN := hide (HBO.out.grow c4)
        clear H1 H2 HBO y1 y2 c4
        have HC := hide fun W (c : Grow w4 W) => count_is (v := (cnt S n : Nat)) (HBN.out.hm.grow c) rfl
        have HR := hide fun W (c : Grow w4 W) => rbetween_any 0 n (HBN.out.hr.grow c)
        rw [btw_all] at HR
        have hq := HBN.out.hr.head
        generalize cnt S n = c0 at *
        go_wp2_with fail
        refine wp_region_grow (by kernel_rfl) (by kernel_rfl) ?_
        repeat (
          with_reducible refine wpQuiet_step ?_
          intro K hK
          first
            | ((with_reducible refine quiet_offT rfl ?_ (hK _ ?_)); focus (refine ⟨_, rfl, ?_⟩; with_reducible rfl))
            | ((with_reducible refine quiet_offF rfl ?_ (hK _ ?_)); focus (refine ⟨_, rfl, ?_⟩; with_reducible rfl))
            | ((with_reducible refine quiet_offN rfl ?_ (hK _ ?_)); focus (exact rfl))
            | ((first | with_reducible refine quiet_free rfl ?_ | ((with_reducible refine quiet_on rfl ?_ ?_); focus (refine ⟨_, rfl, ?_⟩; with_reducible rfl)))
               apply Exists.intro
               refine ⟨fun W hW => ?_, hK _ ?_⟩
               focus (have q0 := Grow.cell hW hq; go_simp; first | done | with_reducible rfl | (go_at_call 23; (first | with_reducible exact grown_call hW (HC.out _ hW) | with_reducible exact grown_same hW (HC.out _ hW))) | (go_at_call 21; (first | with_reducible exact grown_call hW (HR.out _ hW) | with_reducible exact grown_same hW (HR.out _ hW)))))
          clear hK K
          simp only [Act.put, List.setIfInBounds_toArray, List.set_cons_zero, List.set_cons_succ])
        with_reducible refine wpQuiet_nil ?_
        intro wz cz
        have HB2 := hide (HBN.out.grow cz)
        clear HBN HC HR hq cz
        go_wp2
        go_roundw
        case rel => exact ⟨k + 1, q, f, _, by omega, by go_num, rfl, HB2.out⟩
        case measure => simp [intOf]; omega
      by_cases k6 : K = 6
      · as_aux_lemma =>
        clear k1 k2 k3 k4 k5
        subst k6
        go_wp2_with fail
        generalize wr.alloc (.cells #[.int .i64 6, .int .i64 A, .int .i64 B] 33) = wo at *
        generalize wr.heap.size = ob at *
        clear x0 x1 x2 hb
        have y1 : wo.cell? ⟨ob, 1, none⟩ = some (.int .i64 A) := hob.cell 1
        have HWI := hide (ms_wipe HBO.out.hm)
        clear hob hog hof y1
        refine HWI.out.mono ?_
        rintro e w4 ⟨rfl, h4, c4⟩
        have hc4 := HBO.out.cc.new HG.out c4
        clear HWI HBO c4
        go_wp2_with fail
        refine (rnew_any v _).mono ?_
        rintro e w5 ⟨rfl, h5, c5⟩
        rw [HCL.out] at h5
        have hp4 := h4.plt
        have hg4 := h4.glt
        have HBN := hide (show Both w n p g (w4.heap.size + 1) w4.heap.size no w5 from ⟨h4.grow c5, h5, by omega, by omega, by omega, hc4.size, hc4.trans c5⟩)
        clear h4 h5 hc4 c5 hp4 hg4
        generalize w4.heap.size + 1 = q at *
        generalize w4.heap.size = f at *
        have HC := hide fun W (c : Grow w5 W) => count_is (v := (cnt no n : Nat)) (HBN.out.hm.grow c) rfl
        have HR := hide fun W (c : Grow w5 W) => rbetween_any 0 n (HBN.out.hr.grow c)
        rw [btw_all] at HR
        have hq := HBN.out.hr.head
        generalize cnt no n = c0 at *
        go_wp2_with fail
        refine wp_region_grow (by kernel_rfl) (by kernel_rfl) ?_
        repeat (
          with_reducible refine wpQuiet_step ?_
          intro K hK
          first
            | ((with_reducible refine quiet_offT rfl ?_ (hK _ ?_)); focus (refine ⟨_, rfl, ?_⟩; with_reducible rfl))
            | ((with_reducible refine quiet_offF rfl ?_ (hK _ ?_)); focus (refine ⟨_, rfl, ?_⟩; with_reducible rfl))
            | ((with_reducible refine quiet_offN rfl ?_ (hK _ ?_)); focus (exact rfl))
            | ((first | with_reducible refine quiet_free rfl ?_ | ((with_reducible refine quiet_on rfl ?_ ?_); focus (refine ⟨_, rfl, ?_⟩; with_reducible rfl)))
               apply Exists.intro
               refine ⟨fun W hW => ?_, hK _ ?_⟩
               focus (have q0 := Grow.cell hW hq; go_simp; first | done | with_reducible rfl | (go_at_call 23; (first | with_reducible exact grown_call hW (HC.out _ hW) | with_reducible exact grown_same hW (HC.out _ hW))) | (go_at_call 21; (first | with_reducible exact grown_call hW (HR.out _ hW) | with_reducible exact grown_same hW (HR.out _ hW)))))
          clear hK K
          simp only [Act.put, List.setIfInBounds_toArray, List.set_cons_zero, List.set_cons_succ])
        with_reducible refine wpQuiet_nil ?_
        intro wz cz
        have HB2 := hide (HBN.out.grow cz)
        clear HBN HC HR hq cz
        go_wp2
        go_roundw
        case rel => exact ⟨k + 1, q, f, _, by omega, by go_num, rfl, HB2.out⟩
        case measure => simp [intOf]; omega
      · as_aux_lemma =>
        go_wp2_with fail
        generalize wr.alloc (.cells #[.int .i64 K, .int .i64 A, .int .i64 B] 33) = wo at *
        generalize wr.heap.size = ob at *
        clear x0 x1 x2 hb
        have y1 : wo.cell? ⟨ob, 1, none⟩ = some (.int .i64 A) := hob.cell 1
        clear hob hog hof y1
        have HBN := HBO
        clear HBO
        have HC := hide fun W (c : Grow wo W) => count_is (v := (cnt S n : Nat)) (HBN.out.hm.grow c) rfl
        have HR := hide fun W (c : Grow wo W) => rbetween_any 0 n (HBN.out.hr.grow c)
        rw [btw_all] at HR
        have hq := HBN.out.hr.head
        generalize cnt S n = c0 at *
        go_wp2_with fail
        refine wp_region_grow (by kernel_rfl) (by kernel_rfl) ?_
        repeat (
          with_reducible refine wpQuiet_step ?_
          intro K hK
          first
            | ((with_reducible refine quiet_offT rfl ?_ (hK _ ?_)); focus (refine ⟨_, rfl, ?_⟩; with_reducible rfl))
            | ((with_reducible refine quiet_offF rfl ?_ (hK _ ?_)); focus (refine ⟨_, rfl, ?_⟩; with_reducible rfl))
            | ((with_reducible refine quiet_offN rfl ?_ (hK _ ?_)); focus (exact rfl))
            | ((first | with_reducible refine quiet_free rfl ?_ | ((with_reducible refine quiet_on rfl ?_ ?_); focus (refine ⟨_, rfl, ?_⟩; with_reducible rfl)))
               apply Exists.intro
               refine ⟨fun W hW => ?_, hK _ ?_⟩
               focus (have q0 := Grow.cell hW hq; go_simp; first | done | with_reducible rfl | (go_at_call 23; (first | with_reducible exact grown_call hW (HC.out _ hW) | with_reducible exact grown_same hW (HC.out _ hW))) | (go_at_call 21; (first | with_reducible exact grown_call hW (HR.out _ hW) | with_reducible exact grown_same hW (HR.out _ hW)))))
          clear hK K
          simp only [Act.put, List.setIfInBounds_toArray, List.set_cons_zero, List.set_cons_succ])
        with_reducible refine wpQuiet_nil ?_
        intro wz cz
        have HB2 := hide (HBN.out.grow cz)
        clear HBN HC HR hq cz
        go_wp2
        go_roundw
        case rel => exact ⟨k + 1, q, f, _, by omega, by go_num, rfl, HB2.out⟩
        case measure => simp [intOf]; omega
    · obtain rfl : len = k := by omega
      have HCC := hide hb.cc.under
      clear hb
      go_wp2
      go_ret
      exact ⟨rfl, HCC.out⟩

theorem walk (v : Int) (a1 : Option Addr) (len cap : Nat) (rows : List (List Value)) (w : World) (ht : Tab w) (w0 : (Lit.int .i64 v).wf = true) (h0 : IsRecs OpK w a1 len cap rows) :
    Calls Tryd.prog 3 #[.int .i64 v, .slice a1 len cap] w fun e w' => e = .returned (.bool true) ∧ Below w.heap.size w w' := by
  by_cases h : 200 < len
  · exact walk_long v a1 len cap w ht h
  · exact walk_main v a1 len cap rows w ht h0 (by omega)

theorem own : ownKnob Tryd.prog.godebug = none := by kernel_rfl
theorem laidOut : laidOutB Tryd.prog = true := by kernel_rfl
theorem door_met (os : Os) (args : Array Value) : laidMetH Tryd.prog Rows.bitsPlayRow.laid ((World.doorLaid Tryd.prog 400 os).forCall (fun _ _ => 0) ⟨#[], args, []⟩).memory :=
  laidMetH_of_parts3 (fuel := 8) (laidMet_of_run' 8 (by kernel_rfl) (by kernel_rfl)) (by kernel_rfl) (by kernel_rfl)

set_option maxRecDepth 100000 in
theorem lifted (os : Os) (started : os.Started) (H : Type) (enc : TypeId × Value → H) :
    ReturnsInHanded {} Tryd.checked os 3 .any (fun w args => (Rows.bitsPlaySpec.pre enc Tryd.prog Tryd.f3 [] false w args ∧ laidMetH Tryd.prog Rows.bitsPlayRow.laid w) ∧ sizedMet enc Tryd.prog Tryd.f3 (OpenSpec.ofChange Rows.bitsPlaySpec) false w args) (Rows.bitsPlaySpec.post enc Tryd.prog Tryd.f3 false true false false) := by
  refine returnsInHanded_of_change_and (C := Tryd.checked) (X := fun w _ => laidMetH Tryd.prog Rows.bitsPlayRow.laid w) (fun _ _ _ hh h => h.of_heap hh) own started (by kernel_rfl) Tryd.func3
    (ChangeSpec.witness_shaped (enc := enc) (C := Tryd.checked) (os := os) (X := fun w _ => laidMetH Tryd.prog Rows.bitsPlayRow.laid w) false (World.doorLaid Tryd.prog 400 os) #[.int .i64 0, .slice none 0 0] 8 rfl (World.shaped_of_RefB (by kernel_rfl) (by kernel_rfl)) (by kernel_rfl) (by kernel_rfl) (by kernel_rfl) (door_met os _)) ?_
  intro W base args ds gs before hval0 hW _ _ hL _
  have hval : ∀ (j : Nat) t v, Tryd.f3.params[j]? = some t → args[j]? = some v → Value.okWide Tryd.prog W .any base t v := hval0
  have hW' := hW
  obtain ⟨p, q, hA0, hV, rfl, hfz, hnd⟩ := hW
  have hA : DataW.TrodAll enc Tryd.prog W 0 (fun _ => true) true Tryd.f3.params.toList args.toList ds p := hA0
  rw [Tryd.params3] at hA hval
  obtain ⟨v0, vs0, d0, ds0, p0, q0, hargs, rfl, rfl, h0, r0⟩ := trodAll_cons hA
  obtain ⟨v1, vs1, d1, ds1, p1, q1, rfl, rfl, rfl, h1, r1⟩ := trodAll_cons r0
  obtain ⟨rfl, rfl, rfl⟩ := trodAll_nil r1
  obtain rfl : args = #[v0, v1] := by cases args; simp_all
  obtain ⟨rfl, rfl⟩ := trodVars_none hV
  obtain ⟨a0, rfl, rfl, rfl, w0⟩ := open_int Tryd.underlying3 (hval 0 3 v0 rfl rfl) h0
  have k1 := h1
  have lt1 : ∀ x ∈ p1, x.block < W.heap.size := by obtain ⟨m, hm⟩ := k1; exact DataW.trod_lt m _ _ _ hm
  obtain ⟨a1, len1, cap1, rows1, rfl, w1⟩ := open_recs OpK Tryd.underlying22 Tryd.underlying33 (by kernel_rfl) (by kernel_rfl) (by kernel_rfl) (by decide) (hval 1 22 v1 rfl rfl) h1
  clear hA0 hval0
  refine (walk a0 a1 len1 cap1 rows1 W (tab_of_laid hL) w0 w1).mono fun e W' ⟨he, bel⟩ => ?_
  subst he
  exact ⟨_, rfl, _, _, _, [], _, [], hW', trodAll_mk1 (shut_bool Tryd.underlying4 _), (trodAll_cons_mk (shut_int Tryd.underlying3 w0) (trodAll_cons_mk (Below.trod laidOut (by kernel_rfl) (of_decide_eq_true (by kernel_rfl)) k1 bel lt1) trodAll_mk0)), rfl, bel.frame _, fun h => by cases h⟩

theorem over : Rows.bitsPlayRow.holds Tryd.pinned (OpenSpec.ofChange Rows.bitsPlaySpec) :=
  OpenClaim.holds_of_wide 3 Tryd.f3 rfl rfl rfl rfl rfl rfl rfl ⟨rfl, rfl, rfl, rfl, rfl⟩ rfl rfl rfl rfl rfl (by kernel_rfl) Tryd.func3 (by kernel_rfl)
    (of_decide_eq_true (by kernel_rfl)) (by unfold Func.isWrapper; first | (rw [if_pos (by decide +kernel)]; kernel_rfl) | (rw [if_neg (by decide +kernel)]; exact ⟨rfl, rfl⟩))
    (fun os started H enc _ => lifted os started H enc)

/-- The statement. -/
theorem proved : Rows.BitsPlayCardSaid :=
  Claim7.holds_tied_plain_at .later [] [.data] true Rows.bitsPlayCard.stood.harness false
    over (fun _ h => by cases h) (by kernel_rfl) (fun _ h => by cases h) bitsPlay_row_tie rfl ⟨rfl, rfl⟩ (by kernel_rfl) rfl
    (fun f fn hf hfn => by
      obtain rfl : f = 3 := Option.some.inj ((show Tryd.prog.funcNamed "gleaning/gleaninglaw03.BitsPlay" = some 3 by kernel_rfl).symm.trans hf) |>.symm
      obtain rfl : fn = Tryd.f3 := (Option.some.inj (Tryd.func3.symm.trans hfn)).symm
      exact ⟨by kernel_rfl, fun j t ht => by
        rw [Tryd.params3] at ht
        have hm : t ∈ [3, 22] := by simpa using Array.mem_of_getElem? ht
        have hall : ([3, 22].all fun u => !Tryd.prog.wantsStandIn u) = true := by kernel_rfl
        exact (show Tryd.prog.wantsStandIn t = false by simpa using List.all_eq_true.1 hall t hm)⟩)
    (by kernel_rfl)
#print axioms proved
end Go.Proofs.YtobecefikkgelaaDoor.bitsPlay

