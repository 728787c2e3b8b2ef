/- The plain answer of what is reached, and whether a map is that. Conditions: at most 100 lists of at most 30 numbers, and at most 1000000 roots. -/
import Derived.Test.YtaddomgjjemglaaDoorL14B
import Derived.Deep.LoopGhost
namespace Go.Proofs.YtaddomgjjemglaaDoor.L14
open Go.ChangeShapes Go.WideShapes Go.ChangeAt Go.RowKit
open Go.Proofs.YtaddomgjjemglaaDoor.L3 (Ms Tab ms_set ms_len ms_has ms_next ms_count ms_new clamp ptr exB exB_in exB_out exB_nat setI cnt cnt_le cnt_congr cnt_on cnt_none upd upd_at upd_ne hasI has_is nx nx_cases)
set_option linter.unusedVariables false

/-- The first n of a set as cells. -/
def bl (T : Nat → Bool) (n : Nat) : List Value := (List.range n).map fun i => .bool (T i)
theorem bl_len (T : Nat → Bool) (n : Nat) : (bl T n).length = n := by simp [bl]
theorem bl_get {T : Nat → Bool} {n i : Nat} (h : i < n) : (bl T n)[i]? = some (.bool (T i)) := by simp [bl, h]
theorem bl_set {T : Nat → Bool} {n i : Nat} (h : i < n) : (bl T n).set i (.bool true) = bl (upd T i true) n := by
  apply List.ext_getElem?
  intro j
  by_cases hj : j < n
  · rw [bl_get hj]
    by_cases e : j = i
    · subst e
      rw [upd_at, List.getElem?_set_self (by rw [bl_len]; exact hj)]
    · rw [upd_ne e, List.getElem?_set_ne (fun h => e h.symm), bl_get hj]
  · rw [List.getElem?_eq_none (by rw [List.length_set, bl_len]; omega), List.getElem?_eq_none (by rw [bl_len]; omega)]
theorem Tryd.infoBool : (Tryd.prog.info? 4).map (fun i => (i.zero, i.size, i.bytes)) = some (some (.bool false), 1, 1) := by kernel_rfl
/-- make([]bool, n). -/
theorem mk_bools (x : Nat) (h1 : x ≤ 1099511627776) (W : World) :
    (Instr.makeSlice 31 (.int .i64 (x : Int)) (.int .i64 (x : Int))).run Tryd.prog W = .ok (.slice (some ⟨W.heap.size, 0, none⟩) x x) (W.alloc (.cells (bl (fun _ => false) x).toArray 4)) := by
  obtain ⟨i, hi, hz, hs, hb⟩ := info_parts Tryd.infoBool
  rw [run_make (P := Tryd.prog) W 31 4 i _ Tryd.underlying31 hi hz .i64 .i64 (x : Int) (x : Int) (by omega) (Int.le_refl _) (by rw [hb]; omega) (by omega)]
  have e : madeCells (Value.bool false).cells ((x : Int).toNat * i.size) = (bl (fun _ => false) x).toArray := by
    apply Array.ext'
    rw [hs, Nat.mul_one]
    show (madeCells #[.bool false] x).toList = _
    rw [toList_madeCells_one]
    simp [bl, List.map_const']
  rw [e]
  rfl
/-- What the plain answer has so far: T, all of it reached. -/
structure Pa (n : Nat) (E : Nat → List Int) (zs : List Int) (T : Nat → Bool) : Prop where
  rc : ∀ j, T j = true → Rch n E zs j
  rt : ∀ x ∈ zs, exB n x = true → T x.toNat = true
/-- One round over the places: it began with T0. -/
structure Pr (n : Nat) (T0 T : Nat → Bool) (mo : Bool) : Prop where
  mt : mo = true → cnt T0 n < cnt T n
  mf : mo = false → T = T0
/-- The first i places lead to nothing new. -/
def Cl (n : Nat) (E : Nat → List Int) (T : Nat → Bool) (i : Nat) : Prop := ∀ k, k < i → T k = true → ∀ x ∈ E k, exB n x = true → T x.toNat = true
section
variable {n i k : Nat} {E : Nat → List Int} {zs : List Int} {T T0 : Nat → Bool} {mo : Bool} {x : Int}
theorem cnt_upd (h : i < n) (h0 : T i = false) : cnt (upd T i true) n = cnt T n + 1 := cnt_on h h0 (upd_at _ _ _) fun j hj => upd_ne hj
theorem Pa.more (h : Pa n E zs T) (hi : Rch n E zs i) : Pa n E zs (upd T i true) :=
  ⟨fun j hj => by
    rcases upd_iff.1 hj with rfl | hj
    · exact hi
    · exact h.rc j hj, fun x hx he => upd_iff.2 (.inr (h.rt x hx he))⟩
theorem Pr.more (h : Pr n T0 T mo) (hi : i < n) (h0 : T i = false) : Pr n T0 (upd T i true) true :=
  ⟨fun _ => by
    rw [cnt_upd hi h0]
    cases mo with
    | true => have := h.mt rfl; omega
    | false => rw [h.mf rfl]; omega, fun e => by cases e⟩
theorem Pa.done (h : Pa n E zs T) (hc : Cl n E T n) (j : Nat) : T j = true ↔ Rch n E zs j := by
  refine ⟨h.rc j, fun hr => ?_⟩
  induction hr with
  | st h1 h2 => exact h.rt _ h1 (exB_in h2)
  | go h1 h2 h3 ih => exact hc _ h1.lt ih _ h2 (exB_in h3)
/-- The roots so far. -/
structure Pz (n : Nat) (E : Nat → List Int) (zs : List Int) (T : Nat → Bool) (k : Nat) : Prop where
  rc : ∀ j, T j = true → Rch n E zs j
  rt : ∀ i, i < k → exB n (zs.getD i 0) = true → T (zs.getD i 0).toNat = true
theorem Pz.skip (h : Pz n E zs T k) (he : exB n (zs.getD k 0) = false) : Pz n E zs T (k + 1) :=
  ⟨h.rc, fun i hi e => by
    rcases Nat.eq_or_lt_of_le (Nat.le_of_lt_succ hi) with rfl | hi
    · rw [he] at e; cases e
    · exact h.rt i hi e⟩
theorem Pz.take (h : Pz n E zs T k) (hk : k < zs.length) {j : Nat} (hj : zs.getD k 0 = (j : Int)) (hn : j < n) : Pz n E zs (upd T j true) (k + 1) :=
  ⟨fun i hi => by
    rcases upd_iff.1 hi with rfl | hi
    · exact .st (hj ▸ getD_mem hk) hn
    · exact h.rc i hi, fun i hi e => by
    rcases Nat.eq_or_lt_of_le (Nat.le_of_lt_succ hi) with rfl | hi
    · rw [hj]; exact upd_iff.2 (.inl (by simp))
    · exact upd_iff.2 (.inr (h.rt i hi e))⟩
theorem Pz.all (h : Pz n E zs T zs.length) : Pa n E zs T :=
  ⟨h.rc, fun x hx he => by
    obtain ⟨i, hi, rfl⟩ := List.getElem_of_mem hx
    have := h.rt i hi
    rw [List.getD_eq_getElem?_getD, List.getElem?_eq_getElem hi] at this
    exact this he⟩
end
theorem Cl.step {n : Nat} {E : Nat → List Int} {T : Nat → Bool} {i : Nat} (h : Cl n E T i) (hi : T i = true → ∀ x ∈ E i, exB n x = true → T x.toNat = true) : Cl n E T (i + 1) := fun k hk ht => by
  rcases Nat.eq_or_lt_of_le (Nat.le_of_lt_succ hk) with rfl | hk
  · exact hi ht
  · exact h k hk ht
/-- The first m numbers that a place leads to are in. -/
def Cm (n : Nat) (T : Nat → Bool) (xs : List Int) (m : Nat) : Prop := ∀ q, q < m → exB n (xs.getD q 0) = true → T (xs.getD q 0).toNat = true
theorem Cm.step {n : Nat} {T : Nat → Bool} {xs : List Int} {m : Nat} (h : Cm n T xs m) (hm : exB n (xs.getD m 0) = true → T (xs.getD m 0).toNat = true) : Cm n T xs (m + 1) := fun q hq => by
  rcases Nat.eq_or_lt_of_le (Nat.le_of_lt_succ hq) with rfl | hq
  · exact hm
  · exact h q hq
theorem Cm.all {n : Nat} {T : Nat → Bool} {xs : List Int} (h : Cm n T xs xs.length) : ∀ x ∈ xs, exB n x = true → T x.toNat = true := fun x hx he => by
  obtain ⟨i, hi, rfl⟩ := List.getElem_of_mem hx
  have := h i hi
  rw [List.getD_eq_getElem?_getD, List.getElem?_eq_getElem hi] at this
  exact this he
section
variable {w W W' : World} {B len cap i j n k c b c2 : Nat} {a a2 : Option Addr} {L : List (List Int)} {zs : List Int} {S T : Nat → Bool} {places : Int}
set_option maxRecDepth 100000 in
set_option maxHeartbeats 4000000 in
theorem ref_any (h : IsLs B w a len L) (hl : fewB L k = true) (hz : L1.Rd w a2 k zs) (hS : ∀ j, S j = true ↔ Rch n (eL L) zs j) (hn : clamp places = n) :
    Calls Tryd.prog 14 #[.int .i64 places, .slice a len cap, .slice a2 k c] w fun e W => e = .returned (.slice (some ⟨w.heap.size, 0, none⟩) n n) ∧ Blk W w.heap.size 4 (bl S n) ∧ Grow w W := by
  have hnle : n ≤ 4096 := by rw [← hn]; unfold clamp; omega
  obtain ⟨M, hM⟩ : ∃ M : Int, min places 4096 = M := ⟨_, rfl⟩
  have hmn : ∀ (ts : Array TypeId) (t : TypeId) (W : World), (Builtin.min_ ts t #[.int .i64 places, .int .i64 4096]).run Tryd.prog W = .ok (.int .i64 M) W := fun ts t W => by
    rw [run_min_int2]; congr 2; split <;> omega
  have hmx : ∀ (ts : Array TypeId) (t : TypeId) (W : World), (Builtin.max_ ts t #[.int .i64 0, .int .i64 M]).run Tryd.prog W = .ok (.int .i64 (n : Int)) W := fun ts t W => by
    rw [run_max_int2]; congr 2; unfold clamp at hn; split <;> omega
  have hmk := mk_bools n (by omega)
  have HL := hide h
  have HZ := hide hz
  have HS := hide hS
  have HF := hide hl
  have HN := hide (show n ≤ 4096 ∧ len ≤ 100 ∧ k ≤ 100 from ⟨hnle, by have := (of_decide_eq_true hl).1; have := h.1; omega, (of_decide_eq_true hl).2.1⟩)
  have hb := Blk.new w 4 (bl (fun _ => false) n)
  have gB := Grow.box w (.cells (bl (fun _ => false) n).toArray 4)
  have HB := hide (And.intro hb gB)
  clear h hl hz hS hn hnle hM hb gB
  go_enter Tryd.func14, Tryd.ntmps14
  go_wp2_with fail
  generalize w.alloc (.cells (bl (fun _ => false) n).toArray 4) = w1 at *
  obtain ⟨g, hg⟩ : ∃ g, w.heap.size = g := ⟨_, rfl⟩
  rw [hg] at HB ⊢
  have HGE := hide hg.symm
  clear hg hmn hmx hmk
  go_loopw [21] (fun v wr => ∃ (j : Nat) (T : Nat → Bool), j ≤ k ∧ v = .int .i64 j ∧ Pz n (eL L) zs T j ∧ Blk wr g 4 (bl T n) ∧ Grow w wr) (fun v _ => k - (Go.RowKit.intOf v).toNat)
  case atStart => exact ⟨0, fun _ => false, Nat.zero_le _, rfl, ⟨(fun j h => by cases h), fun i hi => absurd hi (by omega)⟩, HB.out⟩
  case round =>
    clear HB
    obtain ⟨j, T, hj, rfl, hp, hb, hg2⟩ := hrel
    rcases Nat.eq_or_lt_of_le hj with hje | hlt
    · have hje2 := hje.symm
      subst hje2
      clear hje
      have q1 : decide ((k : Int) < k) = false := by simp
      have HPA := hide (show Pa n (eL L) zs T from (show Pz n (eL L) zs T zs.length from HZ.out.1.symm ▸ hp).all)
      have HB2 := hide (And.intro hb hg2)
      clear hp hb hg2 hj
      go_wp2_with fail
      go_loopg [10] (2 * n + 1) (fun gg v wr => ∃ (m0 : Bool) (T0 : Nat → Bool), v = .bool m0 ∧ Pa n (eL L) zs T0 ∧ (m0 = false → Cl n (eL L) T0 n) ∧ Blk wr g 4 (bl T0 n) ∧ Grow w wr ∧ 2 * (n - cnt T0 n) + m0.toNat ≤ gg)
      case atStart => exact ⟨true, T, rfl, HPA.out, (fun h => by cases h), HB2.out.1, HB2.out.2, by have : true.toNat = 1 := rfl; omega⟩
      case round =>
        clear HPA HB2 T
        obtain ⟨m0, T0, rfl, hpa, hcl, hb, hg2, hgk⟩ := hrel
        cases m0 with
        | false =>
          have HE := hide (show T0 = S from rch_eq (hpa.done (hcl rfl)) HS.out)
          have HB2 := hide (And.intro hb hg2)
          clear hpa hcl hb hg2 hgk
          go_wp2
          go_returns
          have e := HGE.out
          subst e
          exact ⟨rfl, HE.out ▸ HB2.out.1, HB2.out.2⟩
        | true =>
          have HPA := hide hpa
          have HB2 := hide (And.intro hb hg2)
          have HGK := hide hgk
          clear hpa hcl hb hg2 hgk
          go_wp2_with fail
          go_loopw [10, 47] (fun v u wr => ∃ (m1 : Bool) (i : Nat) (T1 : Nat → Bool), v = .bool m1 ∧ u = .int .i64 i ∧ i ≤ n ∧ Pa n (eL L) zs T1 ∧ Pr n T0 T1 m1 ∧ (m1 = false → Cl n (eL L) T0 i) ∧ Blk wr g 4 (bl T1 n) ∧ Grow w wr) (fun _ u _ => n - (Go.RowKit.intOf u).toNat)
          case atStart => exact ⟨false, 0, T0, rfl, rfl, Nat.zero_le _, HPA.out, ⟨(fun h => by cases h), fun _ => rfl⟩, fun _ k hk => absurd hk (by omega), HB2.out⟩
          case round =>
            clear HPA HB2
            obtain ⟨m1, i, T1, rfl, rfl, hi, hpa, hpr, hcl, hb, hg2⟩ := hrel
            rcases Nat.eq_or_lt_of_le hi with hie | hlt
            · have hie2 := hie.symm
              subst hie2
              clear hie
              have q2 : decide ((n : Int) < n) = false := by simp
              have HM := hide (show 2 * (n - cnt T1 n) + m1.toNat < gk from by
                have h1 := HGK.out
                have h2 : true.toNat = 1 := rfl
                have h3 : false.toNat = 0 := rfl
                have h4 := cnt_le T1 n
                cases m1 with
                | false => rw [hpr.mf rfl]; omega
                | true => have := hpr.mt rfl; omega)
              have HR := hide (And.intro hpa (show m1 = false → Cl n (eL L) T1 n from fun hm => by rw [hpr.mf hm]; exact hcl hm))
              have HB2 := hide (And.intro hb hg2)
              clear hpa hpr hcl hb hg2 hi
              go_wp2
              go_roundg (2 * (n - cnt T1 n) + m1.toNat)
              case measure => exact HM.out
              case rel => exact ⟨m1, T1, rfl, HR.out.1, HR.out.2, HB2.out.1, HB2.out.2, Nat.le_refl _⟩
            · have q2 : decide ((i : Int) < n) = true := decide_eq_true (by omega)
              have q3 : (i : Int) < n := by omega
              have hw2 : IntKind.i64.wrap ((i : Int) + 1) = ((i + 1 : Nat) : Int) := (IntWalk.i64_in _ (by have := HN.out; omega)).trans (by omega)
              have hcT := hb.cell i
              rw [bl_get hlt] at hcT
              cases hti : T1 i with
              | false =>
                rw [hti] at hcT
                have HE := hide (And.intro hpa (And.intro hpr (show m1 = false → Cl n (eL L) T0 (i + 1) from fun hm => (hcl hm).step (fun ht => by rw [← hpr.mf hm, hti] at ht; cases ht))))
                have HB2 := hide (And.intro hb hg2)
                have HLT := hide hlt
                clear hpa hpr hcl hb hg2 hlt hi hti
                go_wp2
                go_roundw
                case rel => exact ⟨m1, i + 1, T1, rfl, rfl, HLT.out, HE.out.1, HE.out.2.1, HE.out.2.2, HB2.out⟩
                case measure => have := HLT.out; simp [Go.RowKit.intOf]; omega
              | true =>
                rw [hti] at hcT
                by_cases hil : i < len
                · have q4 : decide ((i : Int) ≥ len) = false := decide_eq_false (by omega)
                  have q5 : (i : Int) < len := by omega
                  have q5' : decide (len ≤ i) = false := decide_eq_false (by omega)
                  obtain ⟨y, b2, c2', hy, hyc, hrd2, -⟩ := (HL.out.grow hg2).at_ hil
                  subst hy
                  obtain ⟨N2, hN2⟩ : ∃ N2, (eL L i).length = N2 := ⟨_, rfl⟩
                  have hyc' : wr.cell? (y.add i) = some (.slice b2 N2 c2') := hN2 ▸ hyc
                  have HY := hide (show w.cell? (y.add i) = some (.slice b2 N2 c2') ∧ L1.Rd w b2 N2 (eL L i) from by
                    obtain ⟨y', b', c', e1, e2, e3, -⟩ := HL.out.at_ hil
                    injection e1 with e1
                    subst e1
                    have e4 := hg2.cell e2
                    rw [hyc] at e4
                    injection e4 with e4
                    injection e4 with e5 e6 e7
                    subst e5 e7
                    exact ⟨hN2 ▸ e2, hN2 ▸ e3⟩)
                  have HN2 := hide (show (eL L i).length = N2 ∧ N2 ≤ 30 from ⟨hN2, by rw [← hN2]; exact eL_len HF.out i⟩)
                  have HRI := hide (hpa.rc i hti)
                  have HR0 := hide (And.intro hpa (And.intro hpr hcl))
                  have HB2 := hide (And.intro hb hg2)
                  have HIL := hide (And.intro hil hlt)
                  clear hyc hrd2 hN2 hpa hpr hcl hg2 hti hlt hi hb
                  go_wp2_with fail
                  clear hyc' hcT
                  go_loopw [10, 66] (fun v u wr => ∃ (m2 : Bool) (q : Nat) (T2 : Nat → Bool), v = .bool m2 ∧ u = .int .i64 q ∧ q ≤ N2 ∧ Pa n (eL L) zs T2 ∧ Pr n T0 T2 m2 ∧ (m2 = false → Cl n (eL L) T0 i ∧ Cm n T0 (eL L i) q) ∧ Blk wr g 4 (bl T2 n) ∧ Grow w wr) (fun _ u _ => N2 - (Go.RowKit.intOf u).toNat)
                  case atStart => exact ⟨m1, 0, T1, rfl, rfl, Nat.zero_le _, HR0.out.1, HR0.out.2.1, fun hm => ⟨HR0.out.2.2 hm, fun q hq => absurd hq (by omega)⟩, HB2.out⟩
                  case round =>
                    clear HR0 HB2
                    obtain ⟨m2, q, T2, rfl, rfl, hq, hpa, hpr, hcl, hb, hg2⟩ := hrel
                    rcases Nat.eq_or_lt_of_le hq with hqe | hkm
                    · have hqe2 := hqe.symm
                      subst hqe2
                      clear hqe
                      have q6 : decide ((N2 : Int) < N2) = false := by simp
                      have HE := hide (And.intro hpa (And.intro hpr (show m2 = false → Cl n (eL L) T0 (i + 1) from fun hm => (hcl hm).1.step fun _ => Cm.all (HN2.out.1.symm ▸ (hcl hm).2))))
                      have HB2 := hide (And.intro hb hg2)
                      clear hpa hpr hcl hb hg2 hq
                      go_wp2
                      go_roundw
                      case rel => exact ⟨m2, i + 1, T2, rfl, rfl, HIL.out.2, HE.out.1, HE.out.2.1, HE.out.2.2, HB2.out⟩
                      case measure => have := HIL.out; simp [Go.RowKit.intOf]; omega
                    · have q6 : decide ((q : Int) < N2) = true := decide_eq_true (by omega)
                      have q7 : (q : Int) < N2 := by omega
                      have hw3 : IntKind.i64.wrap ((q : Int) + 1) = ((q + 1 : Nat) : Int) := (IntWalk.i64_in _ (by have := HN2.out; omega)).trans (by omega)
                      have hyc := hg2.cell HY.out.1
                      obtain ⟨z, hz2, hzc⟩ := (HY.out.2.grow hg2).at_ hkm
                      subst hz2
                      obtain ⟨x, hx⟩ : ∃ x, (eL L i).getD q 0 = x := ⟨_, rfl⟩
                      rw [hx] at hzc
                      by_cases hx0 : 0 ≤ x
                      · obtain ⟨t, ht⟩ := Int.eq_ofNat_of_zero_le hx0
                        subst ht
                        have q8 : decide ((t : Int) ≥ 0) = true := by simp
                        clear hx0
                        by_cases hxn : t < n
                        · have q9 : decide ((t : Int) < n) = true := decide_eq_true (by omega)
                          have q10 : (t : Int) < n := by omega
                          have hct := hb.cell t
                          rw [bl_get hxn] at hct
                          have hft := hb.frozen t
                          cases htt : T2 t with
                          | true =>
                            rw [htt] at hct
                            have HN2 := hide (And.intro hpa (And.intro hpr (fun hm => And.intro (hcl hm).1 ((hcl hm).2.step (fun _ => by rw [hx]; show T0 t = true; rw [← hpr.mf hm]; exact htt)))))
                            have HB2 := hide (And.intro hb hg2)
                            have HLT := hide hkm
                            clear hpa hpr hcl hb hg2 hkm hx
                            go_wp2
                            go_roundw
                            case rel => exact ⟨m2, q + 1, T2, rfl, rfl, HLT.out, HN2.out.1, HN2.out.2.1, HN2.out.2.2, HB2.out⟩
                            case measure => have := HLT.out; simp [Go.RowKit.intOf]; omega
                          | false =>
                            rw [htt] at hct
                            have HNB := hide (hb.set_ t (.bool true))
                            rw [bl_set hxn] at HNB
                            have HNG := hide (hg2.setCell (p := ⟨g, t, none⟩) (fun hlt' => absurd hlt' (by show ¬ g < w.heap.size; rw [HGE.out]; omega)) (.bool true))
                            have HN3 := hide (And.intro (hpa.more (i := t) (Rch.go HRI.out (by rw [← hx]; exact getD_mem (by rw [HN2.out.1]; exact hkm)) hxn)) (hpr.more hxn htt))
                            have HLT := hide hkm
                            clear hpa hpr hcl hb hg2 hkm hx htt
                            go_wp2
                            go_roundw
                            case rel => exact ⟨true, q + 1, upd T2 t true, rfl, rfl, HLT.out, HN3.out.1, HN3.out.2, (fun hm => by cases hm), HNB.out, HNG.out⟩
                            case measure => have := HLT.out; simp [Go.RowKit.intOf]; omega
                        · have q9 : decide ((t : Int) < n) = false := decide_eq_false (by omega)
                          have HN2 := hide (And.intro hpa (And.intro hpr (fun hm => And.intro (hcl hm).1 ((hcl hm).2.step (fun he => by rw [hx, exB_out (.inr (by omega))] at he; cases he)))))
                          have HB2 := hide (And.intro hb hg2)
                          have HLT := hide hkm
                          clear hpa hpr hcl hb hg2 hkm hx
                          go_wp2
                          go_roundw
                          case rel => exact ⟨m2, q + 1, T2, rfl, rfl, HLT.out, HN2.out.1, HN2.out.2.1, HN2.out.2.2, HB2.out⟩
                          case measure => have := HLT.out; simp [Go.RowKit.intOf]; omega
                      · have q8 : decide (x ≥ 0) = false := decide_eq_false hx0
                        have HN2 := hide (And.intro hpa (And.intro hpr (fun hm => And.intro (hcl hm).1 ((hcl hm).2.step (fun he => by rw [hx, exB_out (.inl (by omega))] at he; cases he)))))
                        have HB2 := hide (And.intro hb hg2)
                        have HLT := hide hkm
                        clear hpa hpr hcl hb hg2 hkm hx
                        go_wp2
                        go_roundw
                        case rel => exact ⟨m2, q + 1, T2, rfl, rfl, HLT.out, HN2.out.1, HN2.out.2.1, HN2.out.2.2, HB2.out⟩
                        case measure => have := HLT.out; simp [Go.RowKit.intOf]; omega
                · have q4 : decide ((i : Int) ≥ len) = true := decide_eq_true (by omega)
                  have q5' : decide (len ≤ i) = true := decide_eq_true (by omega)
                  have q5 : len ≤ i := by omega
                  have HE := hide (And.intro hpa (And.intro hpr (show m1 = false → Cl n (eL L) T0 (i + 1) from fun hm => (hcl hm).step (fun _ x hx => by rw [show eL L i = [] from by unfold eL; rw [List.getD_eq_getElem?_getD, List.getElem?_eq_none (by rw [HL.out.1]; exact q5)]; rfl] at hx; cases hx))))
                  have HB2 := hide (And.intro hb hg2)
                  have HLT := hide hlt
                  clear hpa hpr hcl hb hg2 hlt hi hti
                  go_wp2
                  go_roundw
                  case rel => exact ⟨m1, i + 1, T1, rfl, rfl, HLT.out, HE.out.1, HE.out.2.1, HE.out.2.2, HB2.out⟩
                  case measure => have := HLT.out; simp [Go.RowKit.intOf]; omega
    · have q1 : decide ((j : Int) < k) = true := decide_eq_true (by omega)
      have q2 : (j : Int) < k := by omega
      have hw : IntKind.i64.wrap ((j : Int) + 1) = ((j + 1 : Nat) : Int) := (IntWalk.i64_in _ (by have := HN.out; omega)).trans (by omega)
      obtain ⟨ad, rfl, hcx⟩ := (HZ.out.grow hg2).at_ hlt
      obtain ⟨x, hx⟩ : ∃ x, zs.getD j 0 = x := ⟨_, rfl⟩
      rw [hx] at hcx
      by_cases hx0 : 0 ≤ x
      · obtain ⟨t, ht⟩ := Int.eq_ofNat_of_zero_le hx0
        subst ht
        have q3 : decide ((t : Int) ≥ 0) = true := by simp
        clear hx0
        by_cases hxn : t < n
        · have q4 : decide ((t : Int) < n) = true := decide_eq_true (by omega)
          have q5 : (t : Int) < n := by omega
          have hct := hb.cell t
          rw [bl_get hxn] at hct
          have hft := hb.frozen t
          have HNB := hide (hb.set_ t (.bool true))
          rw [bl_set hxn] at HNB
          have HNG := hide (hg2.setCell (p := ⟨g, t, none⟩) (fun hlt' => absurd hlt' (by show ¬ g < w.heap.size; rw [HGE.out]; omega)) (.bool true))
          have HNP := hide (hp.take (by rw [HZ.out.1]; exact hlt) hx hxn)
          have HLT := hide hlt
          generalize T t = bt at *
          clear hp hb hg2 hlt hx hj
          go_wp2
          go_roundw
          case rel => exact ⟨j + 1, upd T t true, HLT.out, rfl, HNP.out, HNB.out, HNG.out⟩
          case measure => have := HLT.out; simp [Go.RowKit.intOf]; omega
        · have q4 : decide ((t : Int) < n) = false := decide_eq_false (by omega)
          have hex : exB n (t : Int) = false := exB_out (.inr (by omega))
          have HN2 := hide (hp.skip (by rw [hx]; exact hex))
          have HB2 := hide (And.intro hb hg2)
          have HLT := hide hlt
          clear hp hb hg2 hlt hx hex hj
          go_wp2
          go_roundw
          case rel => exact ⟨j + 1, T, HLT.out, rfl, HN2.out, HB2.out⟩
          case measure => have := HLT.out; simp [Go.RowKit.intOf]; omega
      · have q3 : decide (x ≥ 0) = false := decide_eq_false hx0
        have hex : exB n x = false := exB_out (.inl (by omega))
        have HN2 := hide (hp.skip (by rw [hx]; exact hex))
        have HB2 := hide (And.intro hb hg2)
        have HLT := hide hlt
        clear hp hb hg2 hlt hx hex hj
        go_wp2
        go_roundw
        case rel => exact ⟨j + 1, T, HLT.out, rfl, HN2.out, HB2.out⟩
        case measure => have := HLT.out; simp [Go.RowKit.intOf]; omega
set_option maxRecDepth 100000 in
set_option maxHeartbeats 1000000 in
/-- It is the same. -/
theorem same_any {p g n r : Nat} (h : Ms W p g n S) (hb : Blk W r 4 (bl S n)) :
    Calls Tryd.prog 15 #[ptr p, .slice (some ⟨r, 0, none⟩) n n] W fun e W' => e = .returned (.bool true) ∧ Grow W W' := by
  have HM := hide h
  have HB := hide hb
  have hn := h.most
  have HN := hide hn
  clear h hb
  go_enter Tryd.func15, Tryd.ntmps15
  go_wp2_with fail
  refine (ms_len HM.out).mono ?_
  rintro e w' ⟨rfl, rfl⟩
  go_wp2_with fail
  go_loopw [17] (fun v wr => ∃ j : Nat, j ≤ n ∧ v = .int .i64 j ∧ Grow W wr) (fun v _ => n - (Go.RowKit.intOf v).toNat)
  case atStart => exact ⟨0, Nat.zero_le _, rfl, Chg.refl _ _⟩
  case round =>
    obtain ⟨j, hj, rfl, hg⟩ := hrel
    rcases Nat.eq_or_lt_of_le hj with hje | hlt
    · have hje2 := hje.symm
      subst hje2
      have q1 : decide ((n : Int) < n) = false := by simp
      have HG := hide hg
      clear hg hj hje hn
      go_wp2
      go_returns
      exact ⟨rfl, HG.out⟩
    · have q1 : decide ((j : Int) < n) = true := decide_eq_true (by omega)
      have q2 : (j : Int) < n := by omega
      have hw : IntKind.i64.wrap ((j : Int) + 1) = ((j + 1 : Nat) : Int) := (IntWalk.i64_in _ (by omega)).trans (by omega)
      have hc := hg.cell ((HB.out.cell j).trans (bl_get hlt))
      have HH := hide (fun V (d : Grow wr V) => has_is (i := (j : Int)) (HM.out.grow (hg.trans d)) (show hasI S n (j : Int) = S j from by unfold hasI; rw [exB_in hlt]; rfl))
      have HG := hide hg
      have HJ := hide hlt
      cases hs : S j with
      | true =>
        rw [hs] at hc HH
        clear hg hj hlt hs hn
        go_wp2_with fail
        refine wp_region_grow (by kernel_rfl) (by kernel_rfl) ?_
        repeat (
          with_reducible refine wpQuiet_step ?_
          intro K hK
          first
            | ((with_reducible refine quiet_offT rfl ?_ (hK _ ?_)); focus (refine ⟨_, rfl, ?_⟩; with_reducible rfl))
            | ((with_reducible refine quiet_offF rfl ?_ (hK _ ?_)); focus (refine ⟨_, rfl, ?_⟩; with_reducible rfl))
            | ((with_reducible refine quiet_offN rfl ?_ (hK _ ?_)); focus (exact rfl))
            | ((first | with_reducible refine quiet_free rfl ?_ | ((with_reducible refine quiet_on rfl ?_ ?_); focus (refine ⟨_, rfl, ?_⟩; with_reducible rfl)))
               apply Exists.intro
               refine ⟨fun Wq hW => ?_, hK _ ?_⟩
               focus (have q0 := Grow.cell hW hc; go_simp; first | done | with_reducible rfl | (go_at_call 18; (first | with_reducible exact grown_call hW (HH.out _ hW) | with_reducible exact grown_same hW (HH.out _ hW)))))
          clear hK K
          simp only [Act.put, List.setIfInBounds_toArray, List.set_cons_zero, List.set_cons_succ])
        with_reducible refine wpQuiet_nil ?_
        intro w' d
        go_wp2
        go_roundw
        case rel => exact ⟨j + 1, HJ.out, rfl, HG.out.trans d⟩
        case measure => have := HJ.out; simp [Go.RowKit.intOf]; omega
      | false =>
        rw [hs] at hc HH
        clear hg hj hlt hs hn
        go_wp2_with fail
        refine wp_region_grow (by kernel_rfl) (by kernel_rfl) ?_
        repeat (
          with_reducible refine wpQuiet_step ?_
          intro K hK
          first
            | ((with_reducible refine quiet_offT rfl ?_ (hK _ ?_)); focus (refine ⟨_, rfl, ?_⟩; with_reducible rfl))
            | ((with_reducible refine quiet_offF rfl ?_ (hK _ ?_)); focus (refine ⟨_, rfl, ?_⟩; with_reducible rfl))
            | ((with_reducible refine quiet_offN rfl ?_ (hK _ ?_)); focus (exact rfl))
            | ((first | with_reducible refine quiet_free rfl ?_ | ((with_reducible refine quiet_on rfl ?_ ?_); focus (refine ⟨_, rfl, ?_⟩; with_reducible rfl)))
               apply Exists.intro
               refine ⟨fun Wq hW => ?_, hK _ ?_⟩
               focus (have q0 := Grow.cell hW hc; go_simp; first | done | with_reducible rfl | (go_at_call 18; (first | with_reducible exact grown_call hW (HH.out _ hW) | with_reducible exact grown_same hW (HH.out _ hW)))))
          clear hK K
          simp only [Act.put, List.setIfInBounds_toArray, List.set_cons_zero, List.set_cons_succ])
        with_reducible refine wpQuiet_nil ?_
        intro w' d
        go_wp2
        go_roundw
        case rel => exact ⟨j + 1, HJ.out, rfl, HG.out.trans d⟩
        case measure => have := HJ.out; simp [Go.RowKit.intOf]; omega
end
end Go.Proofs.YtaddomgjjemglaaDoor.L14
