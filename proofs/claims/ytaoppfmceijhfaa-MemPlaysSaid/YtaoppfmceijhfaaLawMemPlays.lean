/- For all sizes and all lists of calls MemPlays answers true: each answer of an arena, and all its words, are the plain arena's. Conditions: none. -/
import Derived.Test.YtaoppfmceijhfaaRef01b
import Derived.Test.YtaoppfmceijhfaaOpen
import Derived.ShutString
namespace Go.Proofs.Ytaoppfmceijhfaa.memPlays
open Go.ChangeShapes Go.WideShapes Go.ChangeAt Go.RowKit Go.Deep
set_option linter.unusedVariables false

set_option maxHeartbeats 1000000 in
set_option maxRecDepth 100000 in
theorem walk_long (v : Int) (a1 : Option Addr) (len cap : Nat) (w : World) (h : 200 < len) (hl : len ≤ 9223372036854775807) :
    Calls Try.prog 3 #[.int .i64 v, .slice a1 len cap] w fun e w' => e = .returned (.bool true) ∧ Below w.heap.size w w' := by
  go_enter Try.func3, Try.ntmps3
  go_wp2_with fail
  refine (awake_any _).mono ?_
  rintro e wa ⟨rfl, ca⟩
  go_wp2_with fail
  refine (awake_any _).mono ?_
  rintro e wb ⟨rfl, cb⟩
  go_wp2
  go_ret
  exact ⟨rfl, (ca.trans cb).below (fun _ _ h => h) (Nat.le_refl _)⟩

abbrev OpK : List (Option IntKind) := [some .i64, some .i64, some .i64, some .i64, some .i64]

/-- What holds at the head of each round. -/
def Inv (w : World) (n p g q f : Nat) (wr : World) : Prop :=
  ∃ ys : List Int, ys.length = n ∧ Ar wr p g ys ∧ RAr wr q f ys ∧ Chg (fun i => w.heap.size ≤ i) w wr

theorem inv_of {w : World} {n p g q f : Nat} {wo w3 w4 : World} {ys : List Int} (hl : ys.length = n) (hwg : w.heap.size ≤ g) (hgp : g < p) (hpf : p < f) (hch : Chg (fun i => w.heap.size ≤ i) w wo)
    (h3 : Ar w3 p g ys) (c3 : Chg (· = g) wo.drew w3) (h4 : RAr w4 q f ys) (c4 : Chg (· = f) w3 w4) : Inv w n p g q f w4 :=
  ⟨ys, hl, h3.chg c4 (by omega) (by omega), h4, (hch.drew.step c3 (fun i hi e => by omega)).step c4 (fun i hi e => by omega)⟩
theorem keep1 {ob g : Nat} {wo W : World} {t : TypeId} {cs : List Value} (h : Blk wo ob t cs) (hne : g < ob) (c : Chg (· = g) wo.drew W) (j : Nat) : W.cell? ⟨ob, j, none⟩ = cs[j]? := (h.drew.chg c (by omega)).cell j
theorem keep2 {ob g f : Nat} {wo W W' : World} {t : TypeId} {cs : List Value} (h : Blk wo ob t cs) (hne : g < ob) (hnf : f < ob) (c : Chg (· = g) wo.drew W) (c' : Chg (· = f) W W') (j : Nat) : W'.cell? ⟨ob, j, none⟩ = cs[j]? := ((h.drew.chg c (by omega)).chg c' (by omega)).cell j

set_option maxHeartbeats 4000000 in
set_option maxRecDepth 100000 in
theorem walk_main (v : Int) (a1 : Option Addr) (len cap : Nat) (rows : List (List Value)) (w : World) (h0 : IsRecs OpK w a1 len cap rows) (hlen : len ≤ 200) :
    Calls Try.prog 3 #[.int .i64 v, .slice a1 len cap] w fun e w' => e = .returned (.bool true) ∧ Below w.heap.size w w' := by
  obtain ⟨n, hcl, hn⟩ : ∃ n, clamp v = n ∧ n ≤ 4096 := ⟨clamp v, rfl, by unfold clamp; omega⟩
  have HCL := hide hcl
  clear hcl
  have H0 := hide h0
  clear h0
  have hn3 : decide ((200 : Int) < len) = false := by simp; omega
  go_enter Try.func3, Try.ntmps3
  go_wp2_with fail
  refine (awake_any _).mono ?_
  rintro e wa ⟨rfl, ca⟩
  go_wp2_with fail
  refine (new_any _ _).mono ?_
  rintro e w1 ⟨rfl, h1, c1⟩
  rw [HCL.out] at h1
  have hga : w.heap.size ≤ wa.heap.size := ca.size
  obtain ⟨p, hp⟩ : ∃ p, p = wa.heap.size + 1 := ⟨_, rfl⟩
  obtain ⟨g, hg⟩ : ∃ g, g = wa.heap.size := ⟨_, rfl⟩
  rw [← hp, ← hg] at h1
  rw [← hp]
  have hwg : w.heap.size ≤ g := by omega
  have hgp : g < p := by omega
  clear hp hg
  go_wp2_with fail
  refine (rnew_any _ _).mono ?_
  rintro e w2 ⟨rfl, h2, c2⟩
  rw [HCL.out] at h2
  have hpw : p < w1.heap.size := h1.1.lt
  obtain ⟨q, hq⟩ : ∃ q, q = w1.heap.size + 1 := ⟨_, rfl⟩
  obtain ⟨f, hf⟩ : ∃ f, f = w1.heap.size := ⟨_, rfl⟩
  rw [← hq, ← hf] at h2
  rw [← hq]
  have hpf : p < f := by omega
  have hfq : f < q := by omega
  clear hq hf hpw
  have h1' := h1.chg c2 id id
  have cc := ((ca.trans c1).trans c2).mono (S := fun i => w.heap.size ≤ i) (fun _ _ h => h.elim)
  clear ca c1 c2 h1
  have hqc := h2.cell
  rw [zeros_length] at hqc
  have hsl := h1'.sl
  rw [zeros_length] at hsl
  have HSL := hide hsl
  clear hsl
  go_wp2_with fail
  go_quiet ((go_at_call 12; exact quietly (len_any _ _ n _ (HSL.out.drewN _))))
  clear hqc HSL
  have inv0 : Inv w n p g q f (w2.drewN nq) := ⟨zeros n, zeros_length n, h1', h2, cc.drewN _⟩
  clear cc h1' h2
  go_wp2
  go_loopw [43] (fun i wr => ∃ k : Nat, k ≤ len ∧ i = .int .i64 k ∧ Inv w n p g q f wr) (fun i _ => len - (intOf i).toNat)
  case atStart => exact ⟨0, Nat.zero_le _, rfl, inv0⟩
  case round =>
    obtain ⟨k, hk, rfl, ys, hyl, har, hrr, hch⟩ := hrel
    have HYL := hide hyl
    clear hyl
    by_cases hlt : k < len
    · obtain ⟨b, off, rfl, hcells, hfit⟩ := (H0.out.chg hch (fun i hi => by omega)).at_ hlt
      generalize rows.getD k [] = cs at *
      obtain ⟨K, cs, rfl, hK, hfit⟩ := fits_int hfit
      obtain ⟨A, cs, rfl, hA, hfit⟩ := fits_int hfit
      obtain ⟨B, cs, rfl, hB, hfit⟩ := fits_int hfit
      obtain ⟨N, cs, rfl, hN, hfit⟩ := fits_int hfit
      obtain ⟨V, cs, rfl, hV, hfit⟩ := fits_int hfit
      obtain rfl := fits_nil hfit
      clear hfit
      have x0 : wr.cell? ⟨b, off + k * 5, none⟩ = some (.int .i64 K) := hcells 0 _ rfl
      have x1 : wr.cell? ⟨b, off + k * 5 + 1, none⟩ = some (.int .i64 A) := hcells 1 _ rfl
      have x2 : wr.cell? ⟨b, off + k * 5 + 2, none⟩ = some (.int .i64 B) := hcells 2 _ rfl
      have x3 : wr.cell? ⟨b, off + k * 5 + 3, none⟩ = some (.int .i64 N) := hcells 3 _ rfl
      have x4 : wr.cell? ⟨b, off + k * 5 + 4, none⟩ = some (.int .i64 V) := hcells 4 _ rfl
      clear hcells
      have bA := bounds_i64 hA
      have bB := bounds_i64 hB
      have bN := bounds_i64 hN
      obtain ⟨_, bA2⟩ := bA
      obtain ⟨_, bB2⟩ := bB
      obtain ⟨_, bN2⟩ := bN
      clear hK hA hB hN hV
      have hob := Blk.new wr 33 [.int .i64 K, .int .i64 A, .int .i64 B, .int .i64 N, .int .i64 V]
      have ho := (Chg.refl (fun _ => False) wr).alloc (.cells [.int .i64 K, .int .i64 A, .int .i64 B, .int .i64 N, .int .i64 V].toArray 33)
      have hplt := har.1.lt
      have hglt := har.2.lt
      have hqlt := hrr.1.lt
      have hflt := hrr.2.lt
      have har2 := har.chg ho id id
      have hrr2 := hrr.chg ho id id
      have hch2 := hch.step ho (fun _ _ h => h.elim)
      clear ho
      by_cases k1 : K = 1
      · as_aux_lemma =>
        clear inv0
        subst k1
        go_wp2_with fail
        generalize wr.alloc (.cells #[.int .i64 1, .int .i64 A, .int .i64 B, .int .i64 N, .int .i64 V] 33) = wo at *
        generalize wr.heap.size = ob at *
        clear x0 x1 x2 x3 x4 har hrr hch
        have y1 : wo.cell? ⟨ob, 1, none⟩ = some (.int .i64 A) := hob.cell 1
        have y4 : wo.cell? ⟨ob, 4, none⟩ = some (.int .i64 V) := hob.cell 4
        have HS1 := hide (store_any p g ys A V wo.drew ⟨har2.1.drew, har2.2.drew⟩ (by rw [HYL.out]; omega) bA2)
        have HS2 := hide (fun W (c : Chg (· = g) wo.drew W) => rstore_any q f ys A V W (hrr2.chg (w := wo) (w' := W) ⟨c.os, c.tape, c.output, c.size, c.block⟩ (by omega) (by omega)) (by rw [HYL.out]; omega) bA2)
        have HK1 := hide (fun W (c : Chg (· = g) wo.drew W) => (⟨keep1 hob hglt c 1, keep1 hob hglt c 4⟩ : (fun w' : World => w'.cell? ⟨ob, 1, none⟩ = some (.int .i64 A) ∧ w'.cell? ⟨ob, 4, none⟩ = some (.int .i64 V)) W))
        have HK2 := hide (fun W W' (c : Chg (· = g) wo.drew W) (c' : Chg (· = f) W W') => (⟨keep2 hob hglt hflt c c' 1, keep2 hob hglt hflt c c' 4⟩ : (fun w' : World => w'.cell? ⟨ob, 1, none⟩ = some (.int .i64 A) ∧ w'.cell? ⟨ob, 4, none⟩ = some (.int .i64 V)) W'))
        clear hob
        go_region_held3 (fun w' => w'.cell? ⟨ob, 1, none⟩ = some (.int .i64 A) ∧ w'.cell? ⟨ob, 4, none⟩ = some (.int .i64 V)) (first | exact HK2.out _ _ c3 c4 | exact HK1.out _ c3 | go_keep) (first | (go_at_call 13; refine HS1.out.mono ?_; rintro e w3 ⟨rfl, h3, c3⟩) | (go_at_call 14; refine (HS2.out _ c3).mono ?_; rintro e w4 ⟨rfl, h4, c4⟩))
        have inv1 := inv_of (by rw [stL_length, HYL.out]) hwg hgp hpf hch2 h3 c3 h4 c4
        clear h3 c3 h4 c4 HS1 HS2 HK1 HK2 hch2 har2 hrr2 y1 y4
        go_wp2
        go_roundw
        case rel => exact ⟨k + 1, by omega, by go_num, inv1⟩
        case measure => simp [intOf]; omega
      by_cases k2 : K = 2
      · as_aux_lemma =>
        clear k1
        subst k2
        go_wp2_with fail
        generalize wr.alloc (.cells #[.int .i64 2, .int .i64 A, .int .i64 B, .int .i64 N, .int .i64 V] 33) = wo at *
        generalize wr.heap.size = ob at *
        clear x0 x1 x2 x3 x4 har hrr hch
        have y1 : wo.cell? ⟨ob, 1, none⟩ = some (.int .i64 A) := hob.cell 1
        have y2 : wo.cell? ⟨ob, 2, none⟩ = some (.int .i64 B) := hob.cell 2
        have y3 : wo.cell? ⟨ob, 3, none⟩ = some (.int .i64 N) := hob.cell 3
        have HS1 := hide (move_any p g ys A B N wo.drew ⟨har2.1.drew, har2.2.drew⟩ (by rw [HYL.out]; omega) bA2 bB2 bN2)
        have HS2 := hide (fun W (c : Chg (· = g) wo.drew W) => rmove_any q f ys A B N W (hrr2.chg (w := wo) (w' := W) ⟨c.os, c.tape, c.output, c.size, c.block⟩ (by omega) (by omega)) (by rw [HYL.out]; omega) bA2 bB2 bN2)
        have HK1 := hide (fun W (c : Chg (· = g) wo.drew W) => (⟨keep1 hob hglt c 1, keep1 hob hglt c 2, keep1 hob hglt c 3⟩ : (fun w' : World => w'.cell? ⟨ob, 1, none⟩ = some (.int .i64 A) ∧ w'.cell? ⟨ob, 2, none⟩ = some (.int .i64 B) ∧ w'.cell? ⟨ob, 3, none⟩ = some (.int .i64 N)) W))
        have HK2 := hide (fun W W' (c : Chg (· = g) wo.drew W) (c' : Chg (· = f) W W') => (⟨keep2 hob hglt hflt c c' 1, keep2 hob hglt hflt c c' 2, keep2 hob hglt hflt c c' 3⟩ : (fun w' : World => w'.cell? ⟨ob, 1, none⟩ = some (.int .i64 A) ∧ w'.cell? ⟨ob, 2, none⟩ = some (.int .i64 B) ∧ w'.cell? ⟨ob, 3, none⟩ = some (.int .i64 N)) W'))
        clear hob
        go_region_held3 (fun w' => w'.cell? ⟨ob, 1, none⟩ = some (.int .i64 A) ∧ w'.cell? ⟨ob, 2, none⟩ = some (.int .i64 B) ∧ w'.cell? ⟨ob, 3, none⟩ = some (.int .i64 N)) (first | exact HK2.out _ _ c3 c4 | exact HK1.out _ c3 | go_keep) (first | (go_at_call 15; refine HS1.out.mono ?_; rintro e w3 ⟨rfl, h3, c3⟩) | (go_at_call 16; refine (HS2.out _ c3).mono ?_; rintro e w4 ⟨rfl, h4, c4⟩))
        have inv1 := inv_of (by rw [mvL_length, HYL.out]) hwg hgp hpf hch2 h3 c3 h4 c4
        clear h3 c3 h4 c4 HS1 HS2 HK1 HK2 hch2 har2 hrr2 y1 y2 y3
        go_wp2
        go_roundw
        case rel => exact ⟨k + 1, by omega, by go_num, inv1⟩
        case measure => simp [intOf]; omega
      by_cases k3 : K = 3
      · as_aux_lemma =>
        clear k1 k2
        subst k3
        go_wp2_with fail
        generalize wr.alloc (.cells #[.int .i64 3, .int .i64 A, .int .i64 B, .int .i64 N, .int .i64 V] 33) = wo at *
        generalize wr.heap.size = ob at *
        clear x0 x1 x2 x3 x4 har hrr hch
        have y1 : wo.cell? ⟨ob, 1, none⟩ = some (.int .i64 A) := hob.cell 1
        have y3 : wo.cell? ⟨ob, 3, none⟩ = some (.int .i64 N) := hob.cell 3
        have y4 : wo.cell? ⟨ob, 4, none⟩ = some (.int .i64 V) := hob.cell 4
        have HS1 := hide (fill_any p g ys A N V wo.drew ⟨har2.1.drew, har2.2.drew⟩ (by rw [HYL.out]; omega) bA2 bN2)
        have HS2 := hide (fun W (c : Chg (· = g) wo.drew W) => rfill_any q f ys A N V W (hrr2.chg (w := wo) (w' := W) ⟨c.os, c.tape, c.output, c.size, c.block⟩ (by omega) (by omega)) (by rw [HYL.out]; omega) bA2 bN2)
        have HK1 := hide (fun W (c : Chg (· = g) wo.drew W) => (⟨keep1 hob hglt c 1, keep1 hob hglt c 3, keep1 hob hglt c 4⟩ : (fun w' : World => w'.cell? ⟨ob, 1, none⟩ = some (.int .i64 A) ∧ w'.cell? ⟨ob, 3, none⟩ = some (.int .i64 N) ∧ w'.cell? ⟨ob, 4, none⟩ = some (.int .i64 V)) W))
        have HK2 := hide (fun W W' (c : Chg (· = g) wo.drew W) (c' : Chg (· = f) W W') => (⟨keep2 hob hglt hflt c c' 1, keep2 hob hglt hflt c c' 3, keep2 hob hglt hflt c c' 4⟩ : (fun w' : World => w'.cell? ⟨ob, 1, none⟩ = some (.int .i64 A) ∧ w'.cell? ⟨ob, 3, none⟩ = some (.int .i64 N) ∧ w'.cell? ⟨ob, 4, none⟩ = some (.int .i64 V)) W'))
        clear hob
        go_region_held3 (fun w' => w'.cell? ⟨ob, 1, none⟩ = some (.int .i64 A) ∧ w'.cell? ⟨ob, 3, none⟩ = some (.int .i64 N) ∧ w'.cell? ⟨ob, 4, none⟩ = some (.int .i64 V)) (first | exact HK2.out _ _ c3 c4 | exact HK1.out _ c3 | go_keep) (first | (go_at_call 17; refine HS1.out.mono ?_; rintro e w3 ⟨rfl, h3, c3⟩) | (go_at_call 18; refine (HS2.out _ c3).mono ?_; rintro e w4 ⟨rfl, h4, c4⟩))
        have inv1 := inv_of (by rw [fiL_length, HYL.out]) hwg hgp hpf hch2 h3 c3 h4 c4
        clear h3 c3 h4 c4 HS1 HS2 HK1 HK2 hch2 har2 hrr2 y1 y3 y4
        go_wp2
        go_roundw
        case rel => exact ⟨k + 1, by omega, by go_num, inv1⟩
        case measure => simp [intOf]; omega
      by_cases k4 : K = 4
      · as_aux_lemma =>
        clear k1 k2 k3
        subst k4
        cases hx : exB n A 1 with
        | false =>
          have HX := hide hx
          simp [exB] at hx
          by_cases i1 : 0 ≤ A
          · have i2 : decide (A < (n : Int)) = false := by simp; omega
            clear hx
            go_wp2_with fail
            generalize wr.alloc (.cells #[.int .i64 4, .int .i64 A, .int .i64 B, .int .i64 N, .int .i64 V] 33) = wo at *
            generalize wr.heap.size = ob at *
            clear x0 x1 x2 x3 x4 har hrr hch
            have y1 : wo.cell? ⟨ob, 1, none⟩ = some (.int .i64 A) := hob.cell 1
            have hqc := hrr2.cell
            rw [HYL.out] at hqc
            have hsl := har2.sl
            rw [HYL.out] at hsl
            have HSL := hide hsl
            clear hsl
            refine (load_no _ _ n A _ HSL.out hn bA2 HX.out).mono ?_
            rintro e w' ⟨rfl, rfl⟩
            go_wp2_with fail
            go_quiet (fail)
            go_wp2_with fail
            go_quiet (fail)
            go_wp2
            go_roundw
            case rel => exact ⟨k + 1, by omega, by go_num, ys, HYL.out, har2, hrr2, hch2.drewN _⟩
            case measure => simp [intOf]; omega
          · have i2 : decide (0 ≤ A) = false := by simp; omega
            clear hx
            go_wp2_with fail
            generalize wr.alloc (.cells #[.int .i64 4, .int .i64 A, .int .i64 B, .int .i64 N, .int .i64 V] 33) = wo at *
            generalize wr.heap.size = ob at *
            clear x0 x1 x2 x3 x4 har hrr hch
            have y1 : wo.cell? ⟨ob, 1, none⟩ = some (.int .i64 A) := hob.cell 1
            have hqc := hrr2.cell
            rw [HYL.out] at hqc
            have hsl := har2.sl
            rw [HYL.out] at hsl
            have HSL := hide hsl
            clear hsl
            refine (load_no _ _ n A _ HSL.out hn bA2 HX.out).mono ?_
            rintro e w' ⟨rfl, rfl⟩
            go_wp2_with fail
            go_quiet (fail)
            go_wp2_with fail
            go_quiet (fail)
            go_wp2
            go_roundw
            case rel => exact ⟨k + 1, by omega, by go_num, ys, HYL.out, har2, hrr2, hch2.drewN _⟩
            case measure => simp [intOf]; omega
        | true =>
          obtain ⟨a, M, rfl, e1, ha⟩ := exB_nat hx
          have hal : a < n := by omega
          clear hx e1 ha
          go_wp2_with fail
          generalize wr.alloc (.cells #[.int .i64 4, .int .i64 a, .int .i64 B, .int .i64 N, .int .i64 V] 33) = wo at *
          generalize wr.heap.size = ob at *
          clear x0 x1 x2 x3 x4 har hrr hch
          have y1 : wo.cell? ⟨ob, 1, none⟩ = some (.int .i64 a) := hob.cell 1
          have hqc := hrr2.cell
          rw [HYL.out] at hqc
          have hsl := har2.sl
          rw [HYL.out] at hsl
          have HSL := hide hsl
          clear hsl
          have hfc := hrr2.2.cell a
          rw [ints_get _ _ (by rw [HYL.out]; omega)] at hfc
          have HL := hide (load_ok p g ys a wo har2 (by rw [HYL.out]; omega) (by rw [HYL.out]; omega))
          generalize ys.getD a 0 = z at *
          refine HL.out.mono ?_
          rintro e w' ⟨rfl, rfl⟩
          go_wp2_with fail
          go_quiet (fail)
          go_wp2_with fail
          go_quiet (fail)
          go_wp2
          go_roundw
          case rel => exact ⟨k + 1, by omega, by go_num, ys, HYL.out, har2, hrr2, hch2.drewN _⟩
          case measure => simp [intOf]; omega
      by_cases k5 : K = 5
      · as_aux_lemma =>
        clear k1 k2 k3 k4
        subst k5
        cases hx : exB n A N with
        | false =>
          go_wp2_with fail
          generalize wr.alloc (.cells #[.int .i64 5, .int .i64 A, .int .i64 B, .int .i64 N, .int .i64 V] 33) = wo at *
          generalize wr.heap.size = ob at *
          clear x0 x1 x2 x3 x4 har hrr hch
          have y1 : wo.cell? ⟨ob, 1, none⟩ = some (.int .i64 A) := hob.cell 1
          have y3 : wo.cell? ⟨ob, 3, none⟩ = some (.int .i64 N) := hob.cell 3
          have hqc := hrr2.cell
          rw [HYL.out] at hqc
          have hsl := har2.sl
          rw [HYL.out] at hsl
          have HSL := hide hsl
          clear hsl
          refine (words_no _ _ n A N _ HSL.out hn bA2 bN2 hx).mono ?_
          rintro e w' ⟨rfl, rfl⟩
          have HT := hide (there_any q f ys A N wo hrr2 (by rw [HYL.out]; omega) bA2 bN2)
          rw [HYL.out, hx] at HT
          clear hx
          go_wp2_with fail
          refine HT.out.mono ?_
          rintro e w' ⟨rfl, rfl⟩
          go_wp2_with fail
          go_quiet (fail)
          go_wp2
          go_roundw
          case rel => exact ⟨k + 1, by omega, by go_num, ys, HYL.out, har2, hrr2, hch2.drewN _⟩
          case measure => simp [intOf]; omega
        | true =>
          by_cases hN0 : N = 0
          · subst hN0
            obtain ⟨a, m, rfl, e0, ham⟩ := exB_nat hx
            have han : a ≤ n := by omega
            clear ham e0
            have HX := hide hx
            clear hx
            by_cases hal : a < n
            · go_wp2_with fail
              generalize wr.alloc (.cells #[.int .i64 5, .int .i64 a, .int .i64 B, .int .i64 0, .int .i64 V] 33) = wo at *
              generalize wr.heap.size = ob at *
              clear x0 x1 x2 x3 x4 har hrr hch
              have y1 : wo.cell? ⟨ob, 1, none⟩ = some (.int .i64 a) := hob.cell 1
              have y3 : wo.cell? ⟨ob, 3, none⟩ = some (.int .i64 0) := hob.cell 3
              have hobl := hob.lt
              refine (words_zero p g ys a _ har2 (by rw [HYL.out]; omega) (by rw [HYL.out]; omega)).mono ?_
              rintro e w3 ⟨rfl, h3, c3⟩
              generalize wo.heap.size = wb at *
              have har3 := har2.chg c3 id id
              have hrr3 := hrr2.chg c3 id id
              have hob3 := hob.chg c3 id
              have hch3 := hch2.step c3 (fun _ _ h => h.elim)
              have z1 : w3.cell? ⟨ob, 1, none⟩ = some (.int .i64 a) := hob3.cell 1
              have z3 : w3.cell? ⟨ob, 3, none⟩ = some (.int .i64 0) := hob3.cell 3
              have hqc := hrr3.cell
              rw [HYL.out] at hqc
              have HT := hide (there_any q f ys a 0 w3 hrr3 (by rw [HYL.out]; omega) bA2 bN2)
              rw [HYL.out, HX.out] at HT
              clear y1 y3 hob hob3 h3 c3 har2 hrr2 hch2 HX
              go_wp2_with fail
              refine HT.out.mono ?_
              rintro e w' ⟨rfl, rfl⟩
              go_wp2_with fail
              have f6 : IntKind.i64.wrap (↑a) = ↑a := IntWalk.i64_in _ (by omega)
              have f3 : ¬ n = a := by omega
              go_quiet ((go_at_call 22; exact Calls.quiet_of (same_quiet _ _ 0 _ _ [] _ Rd.nothing Rd.nothing (by omega))))
              clear f6
              go_wp2
              go_roundw
              case rel => exact ⟨k + 1, by omega, by go_num, ys, HYL.out, har3, hrr3, hch3.drewN _⟩
              case measure => simp [intOf]; omega
            · obtain rfl : n = a := by omega
              clear hal
              go_wp2_with fail
              generalize wr.alloc (.cells #[.int .i64 5, .int .i64 n, .int .i64 B, .int .i64 0, .int .i64 V] 33) = wo at *
              generalize wr.heap.size = ob at *
              clear x0 x1 x2 x3 x4 har hrr hch
              have y1 : wo.cell? ⟨ob, 1, none⟩ = some (.int .i64 n) := hob.cell 1
              have y3 : wo.cell? ⟨ob, 3, none⟩ = some (.int .i64 0) := hob.cell 3
              have hobl := hob.lt
              refine (words_zero p g ys n _ har2 (by rw [HYL.out]; omega) (by rw [HYL.out]; omega)).mono ?_
              rintro e w3 ⟨rfl, h3, c3⟩
              generalize wo.heap.size = wb at *
              have har3 := har2.chg c3 id id
              have hrr3 := hrr2.chg c3 id id
              have hob3 := hob.chg c3 id
              have hch3 := hch2.step c3 (fun _ _ h => h.elim)
              have z1 : w3.cell? ⟨ob, 1, none⟩ = some (.int .i64 n) := hob3.cell 1
              have z3 : w3.cell? ⟨ob, 3, none⟩ = some (.int .i64 0) := hob3.cell 3
              have hqc := hrr3.cell
              rw [HYL.out] at hqc
              have HT := hide (there_any q f ys n 0 w3 hrr3 (by rw [HYL.out]; omega) bA2 bN2)
              rw [HYL.out, HX.out] at HT
              clear y1 y3 hob hob3 h3 c3 har2 hrr2 hch2 HX
              go_wp2_with fail
              refine HT.out.mono ?_
              rintro e w' ⟨rfl, rfl⟩
              go_wp2_with fail
              have f6 : IntKind.i64.wrap (↑n) = ↑n := IntWalk.i64_in _ (by omega)
              go_quiet ((go_at_call 22; exact Calls.quiet_of (same_quiet _ _ 0 _ _ [] _ Rd.nothing Rd.nothing (by omega))))
              clear f6
              go_wp2
              go_roundw
              case rel => exact ⟨k + 1, by omega, by go_num, ys, HYL.out, har3, hrr3, hch3.drewN _⟩
              case measure => simp [intOf]; omega
          · obtain ⟨a, m, rfl, rfl, ham⟩ := exB_nat hx
            have han : a < n := by omega
            clear hN0
            have HX := hide hx
            clear hx
            go_wp2_with fail
            generalize wr.alloc (.cells #[.int .i64 5, .int .i64 a, .int .i64 B, .int .i64 m, .int .i64 V] 33) = wo at *
            generalize wr.heap.size = ob at *
            clear x0 x1 x2 x3 x4 har hrr hch
            have y1 : wo.cell? ⟨ob, 1, none⟩ = some (.int .i64 a) := hob.cell 1
            have y3 : wo.cell? ⟨ob, 3, none⟩ = some (.int .i64 m) := hob.cell 3
            have hobl := hob.lt
            refine (words_ok p g ys a m _ har2 (by rw [HYL.out]; omega) (by rw [HYL.out]; omega)).mono ?_
            rintro e w3 ⟨rfl, h3, c3⟩
            generalize wo.heap.size = wb at *
            have har3 := har2.chg c3 id id
            have hrr3 := hrr2.chg c3 id id
            have hob3 := hob.chg c3 id
            have hch3 := hch2.step c3 (fun _ _ h => h.elim)
            have z1 : w3.cell? ⟨ob, 1, none⟩ = some (.int .i64 a) := hob3.cell 1
            have z3 : w3.cell? ⟨ob, 3, none⟩ = some (.int .i64 m) := hob3.cell 3
            have hqc := hrr3.cell
            rw [HYL.out] at hqc
            have hcl : a + m ≤ ys.length := by rw [HYL.out]; exact ham
            have hr1 : Rd w3 (some ⟨wb, 0, none⟩) m ((ys.drop a).take m) := Rd.of_blk h3 (length_cut _ _ _ hcl)
            have hr2 : Rd w3 (some ⟨f, a, none⟩) m ((ys.drop a).take m) := Rd.of_cut hrr3.2 hcl
            have HR1 := hide hr1
            have HR2 := hide hr2
            have HT := hide (there_any q f ys a m w3 hrr3 (by rw [HYL.out]; omega) bA2 bN2)
            rw [HYL.out, HX.out] at HT
            clear hr1 hr2 hcl y1 y3 hob hob3 h3 c3 har2 hrr2 hch2 HX
            go_wp2_with fail
            refine HT.out.mono ?_
            rintro e w' ⟨rfl, rfl⟩
            go_wp2_with fail
            have f1 : (↑a + ↑m : Int) ≤ ↑n := by omega
            have f2 : (0 : Int) ≤ ↑a + ↑m := by omega
            have f3 : ¬ n = a := by omega
            have f4 : m ≤ 1099511627776 := by omega
            have f5 : (↑a + ↑m : Int).toNat = a + m := by omega
            have f6 : IntKind.i64.wrap (↑a + ↑m) = ↑a + ↑m := IntWalk.i64_in _ (by omega)
            go_quiet ((go_at_call 22; exact Calls.quiet_of (same_quiet _ _ m _ _ _ _ (HR1.out.drewN _) (HR2.out.drewN _) f4)))
            clear f5 f6
            go_wp2
            go_roundw
            case rel => exact ⟨k + 1, by omega, by go_num, ys, HYL.out, har3, hrr3, hch3.drewN _⟩
            case measure => simp [intOf]; omega
      as_aux_lemma =>
        have b1 : (K == 1) = false := beq_eq_false_iff_ne.2 k1
        have b2 : (K == 2) = false := beq_eq_false_iff_ne.2 k2
        have b3 : (K == 3) = false := beq_eq_false_iff_ne.2 k3
        have b4 : (K == 4) = false := beq_eq_false_iff_ne.2 k4
        have b5 : (K == 5) = false := beq_eq_false_iff_ne.2 k5
        clear k1 k2 k3 k4 k5
        go_wp2
        go_roundw
        case rel => exact ⟨k + 1, by omega, by go_num, ys, HYL.out, har2, hrr2, hch2⟩
        case measure => simp [intOf]; omega
    · as_aux_lemma =>
      have hw := words_ok p g ys 0 n wr har (by rw [HYL.out]; omega) (by rw [HYL.out]; omega)
      rw [List.drop_zero, List.take_of_length_le (by rw [HYL.out]; exact Nat.le_refl _)] at hw
      have HW := hide hw
      have hqc := hrr.cell
      rw [HYL.out] at hqc
      clear hw
      go_wp2_with fail
      refine HW.out.mono ?_
      rintro e w3 ⟨rfl, h3, c3⟩
      have hr3 := hrr.chg c3 id id
      have cc3 := hch.step c3 (fun _ _ h => h.elim)
      have hq3 := hr3.cell
      rw [HYL.out] at hq3
      clear hqc har hrr hch c3 HW
      generalize wr.heap.size = b2 at *
      go_wp2_with fail
      refine (same_yes _ _ n _ _ ys _ (Rd.of_blk h3 HYL.out) (Rd.of_blk hr3.2 HYL.out) (by omega)).mono ?_
      rintro e w4 ⟨rfl, c4⟩
      have cc4 := cc3.step c4 (fun _ _ h => h.elim)
      go_wp2
      go_ret
      exact ⟨rfl, cc4.below (fun i hi => by omega) (Nat.le_refl _)⟩

theorem walk (a0 : Int) (a1 : Option Addr) (len1 cap1 : Nat) (rows1 : List (List Value)) (w : World) (w0 : (Lit.int .i64 a0).wf = true) (w1 : IsRecs OpK w a1 len1 cap1 rows1) :
    Calls Try.prog 3 #[.int .i64 a0, .slice a1 len1 cap1] w fun e w' => e = .returned (.bool true) ∧ Below w.heap.size w w' := by
  have bl : len1 ≤ 9223372036854775807 := by have h1 := w1.2.1; have h2 := w1.2.2.1; unfold maxLen at h2; omega
  by_cases h : len1 ≤ 200
  · exact walk_main a0 a1 len1 cap1 rows1 w w1 h
  · exact walk_long a0 a1 len1 cap1 w (by omega) bl

theorem own : ownKnob Try.prog.godebug = none := by kernel_rfl
theorem laidOut : laidOutB Try.prog = true := by kernel_rfl

set_option maxRecDepth 100000 in
theorem lifted (os : Os) (started : os.Started) (H : Type) (enc : TypeId × Value → H) :
    ReturnsInHanded {} Try.checked os 3 .any (Rows.memPlaysSpec.pre6 enc Try.prog Try.f3 Rows.memPlaysRow.domain false) (Rows.memPlaysSpec.post enc Try.prog Try.f3 false true false false) := by
  refine returnsInHanded_of_change (C := Try.checked) own started (by kernel_rfl) Try.func3
    (ChangeSpec.witness6 (enc := enc) (C := Try.checked) false ⟨#[], #[.int .i64 0, .slice none 0 0], []⟩ 8 (by kernel_rfl) (by kernel_rfl) (by kernel_rfl) (by kernel_rfl)) ?_
  intro W base args ds gs before hval0 hW hcnd _
  have hval : ∀ (j : Nat) t v, Try.f3.params[j]? = some t → args[j]? = some v → Value.okWide Try.prog W .any base t v := hval0
  have hW' := hW
  obtain ⟨p, q, hA0, hV, rfl, hfz, hnd⟩ := hW
  have hA : DataW.TrodAll enc Try.prog W 0 (fun _ => true) true Try.f3.params.toList args.toList ds p := hA0
  rw [Try.params3] at hA hval
  obtain ⟨v0, vs0, d0, ds0, p0, q0, hargs, rfl, rfl, h0, r0⟩ := trodAll_cons hA
  obtain ⟨v1, vs1, d1, ds1, p1, q1, rfl, rfl, rfl, h1, r1⟩ := trodAll_cons r0
  obtain ⟨rfl, rfl, rfl⟩ := trodAll_nil r1
  obtain rfl : args = #[v0, v1] := by cases args; simp_all
  obtain ⟨rfl, rfl⟩ := trodVars_none hV
  obtain ⟨a0, rfl, rfl, rfl, w0⟩ := open_int Try.underlying3 (hval 0 3 v0 rfl rfl) h0
  have k1 := h1
  have lt1 : ∀ x ∈ p1, x.block < W.heap.size := by obtain ⟨m, hm⟩ := k1; exact DataW.trod_lt m _ _ _ hm
  obtain ⟨a1, len1, cap1, rows1, rfl, w1⟩ := open_recs OpK Try.underlying22 Try.underlying33 (by kernel_rfl) (by kernel_rfl) (by kernel_rfl) (by decide) (hval 1 22 v1 rfl rfl) h1
  clear hA0 hval0
  refine (walk a0 a1 len1 cap1 rows1 W w0 w1).mono fun e W' ⟨he, bel⟩ => ?_
  subst he
  exact ⟨_, rfl, _, _, _, [], _, [], hW', trodAll_mk1 (shut_bool Try.underlying4 _), (trodAll_cons_mk (shut_int Try.underlying3 w0) (trodAll_cons_mk (Below.trod laidOut (by kernel_rfl) (of_decide_eq_true (by kernel_rfl)) k1 bel lt1) trodAll_mk0)), rfl, bel.frame _, fun h => by cases h⟩

theorem over : Rows.memPlaysRow.holds Try.pinned (OpenSpec.ofChange Rows.memPlaysSpec) :=
  OpenClaim.holds_of_wide 3 Try.f3 rfl rfl rfl rfl rfl rfl rfl ⟨rfl, rfl, rfl, rfl, rfl⟩ rfl rfl rfl rfl rfl (by kernel_rfl) Try.func3 (by kernel_rfl)
    (of_decide_eq_true (by kernel_rfl)) (by unfold Func.isWrapper; first | (rw [if_pos (by decide +kernel)]; kernel_rfl) | (rw [if_neg (by decide +kernel)]; exact ⟨rfl, rfl⟩))
    (fun os started H enc _ => lifted os started H enc)

/-- The statement. -/
theorem proved : Rows.MemPlaysSaid := over
#print axioms proved
end Go.Proofs.Ytaoppfmceijhfaa.memPlays

