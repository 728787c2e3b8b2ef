/- What the calls of package gleaningref03 answer, in the words of the set of places. Conditions: the numbers given fit their kinds; a map has at most 4096 places. -/
import Derived.Test.YtobecefikkgelaaDoorIs
namespace Go.Proofs.YtobecefikkgelaaDoor
open Go.ChangeShapes Go.WideShapes Go.ChangeAt Go.RowKit
set_option linter.unusedVariables false

/-- The places as cells. -/
def bls (n : Nat) (S : Nat → Bool) : List Value := (List.range n).map fun i => .bool (S i)
theorem bls_length (n : Nat) (S : Nat → Bool) : (bls n S).length = n := by simp [bls]
theorem bls_get (n : Nat) (S : Nat → Bool) {i : Nat} (h : i < n) : (bls n S)[i]? = some (.bool (S i)) := by simp [bls, h]
theorem bls_set (n : Nat) (S : Nat → Bool) (i : Nat) (b : Bool) : (bls n S).set i (.bool b) = bls n (upd S i b) := by
  apply List.ext_getElem?
  intro j
  rw [List.getElem?_set, bls_length]
  by_cases hj : j < n
  · rw [bls_get _ _ hj, bls_get _ _ hj]
    by_cases e : i = j
    · subst e; rw [if_pos rfl, if_pos hj, upd_at]
    · rw [if_neg e, upd_ne (Ne.symm e)]
  · have h1 : ∀ T : Nat → Bool, (bls n T)[j]? = none := fun T => List.getElem?_eq_none (by rw [bls_length]; omega)
    rw [h1, h1]
    split
    · split
      · omega
      · rfl
    · rfl
theorem bls_no (n : Nat) : bls n no = List.replicate n (.bool false) := by
  show (List.range n).map (fun _ => Value.bool false) = _
  simp [List.map_const']

/-- The plain map in block q (its places in block f) has n places, of which S are set. -/
def Rs (w : World) (q f n : Nat) (S : Nat → Bool) : Prop := n ≤ 4096 ∧ Blk w q 31 [.slice (some ⟨f, 0, none⟩) n n] ∧ Blk w f 4 (bls n S)
theorem Rs.chg {C : Nat → Prop} {w w' : World} {q f n : Nat} {S : Nat → Bool} (h : Rs w q f n S) (k : Chg C w w') (hq : ¬ C q) (hf : ¬ C f) : Rs w' q f n S := ⟨h.1, h.2.1.chg k hq, h.2.2.chg k hf⟩
theorem Rs.grow {w w' : World} {q f n : Nat} {S : Nat → Bool} (h : Rs w q f n S) (k : Grow w w') : Rs w' q f n S := h.chg k id id
theorem Rs.ne {w : World} {q f n : Nat} {S : Nat → Bool} (h : Rs w q f n S) : q ≠ f := h.2.1.ne_ h.2.2 (by decide)
theorem Rs.head {w : World} {q f n : Nat} {S : Nat → Bool} (h : Rs w q f n S) : w.cell? ⟨q, 0, none⟩ = some (.slice (some ⟨f, 0, none⟩) n n) := h.2.1.cell 0
theorem Rs.at_ {w : World} {q f n : Nat} {S : Nat → Bool} (h : Rs w q f n S) {i : Nat} (hi : i < n) : w.cell? ⟨f, i, none⟩ = some (.bool (S i)) := by rw [h.2.2.cell]; exact bls_get n S hi
theorem Rs.set {w : World} {q f n : Nat} {S : Nat → Bool} (h : Rs w q f n S) (i : Nat) (b : Bool) : Rs (w.setCell ⟨f, i, none⟩ (.bool b)) q f n (upd S i b) :=
  ⟨h.1, h.2.1.far h.ne _, by rw [← bls_set]; exact h.2.2.set_ i _⟩

theorem Tryd.infoBool : (Tryd.prog.info? 4).map (fun i => (i.zero, i.size, i.bytes)) = some (some (.bool false), 1, 1) := by kernel_rfl
theorem mk_bools (x : Nat) (h1 : x ≤ 1099511627776) (W : World) :
    (Instr.makeSlice 29 (.int .i64 (x : Int)) (.int .i64 (x : Int))).run Tryd.prog W = .ok (.slice (some ⟨W.heap.size, 0, none⟩) x x) (W.alloc (.cells (bls x no).toArray 4)) := by
  obtain ⟨i, hi, hz, hs, hb⟩ := info_parts Tryd.infoBool
  rw [run_make (P := Tryd.prog) W 29 4 i _ Tryd.underlying29 hi hz .i64 .i64 (x : Int) (x : Int) (by omega) (Int.le_refl _) (by rw [hb]; omega) (by omega)]
  have e : madeCells (Value.bool false).cells ((x : Int).toNat * i.size) = (bls x no).toArray := by
    apply Array.ext'
    rw [hs, Nat.mul_one]
    show (madeCells #[.bool false] x).toList = _
    rw [toList_madeCells_one, bls_no]
  rw [e]
  rfl

theorem rnew_any (v : Int) (w : World) : Calls Tryd.prog 11 #[.int .i64 v] w fun e w' => e = .returned (ptr (w.heap.size + 1)) ∧ Rs w' (w.heap.size + 1) w.heap.size (clamp v) no ∧ Grow w w' := by
  obtain ⟨m, hm⟩ : ∃ m : Int, min v 4096 = m := ⟨_, rfl⟩
  obtain ⟨n, hn⟩ : ∃ n, clamp v = n := ⟨_, rfl⟩
  have hnle : n ≤ 4096 := by rw [← hn]; unfold clamp; omega
  have hmn : ∀ ts t W, (Builtin.min_ ts t #[.int .i64 v, .int .i64 4096]).run Tryd.prog W = .ok (.int .i64 m) W := fun ts t W => by
    rw [run_min_int2]; congr 2; split <;> omega
  have hmx : ∀ ts t W, (Builtin.max_ ts t #[.int .i64 0, .int .i64 m]).run Tryd.prog W = .ok (.int .i64 n) W := fun ts t W => by
    rw [run_max_int2]; congr 2; unfold clamp at hn; split <;> omega
  rw [hn]
  have hmk := mk_bools n (by omega)
  clear hm hn
  go_enter Tryd.func11, Tryd.ntmps11
  go_wp2
  go_ret
  have h1 := Blk.new w 4 (bls n no)
  have h2 := Blk.new (w.alloc (.cells (bls n no).toArray 4)) 31 [.slice (some ⟨w.heap.size, 0, none⟩) n n]
  rw [World.size_alloc] at h2
  exact ⟨rfl, ⟨hnle, h2, h1.alloc _⟩, ((Chg.refl _ _).alloc _).alloc _⟩

section
variable {q f n : Nat} {S : Nat → Bool} {w : World}
theorem rhas_any (i : Int) (h : Rs w q f n S) : Calls Tryd.prog 17 #[ptr q, .int .i64 i] w fun e w' => e = .returned (.bool (hasI S n i)) ∧ w = w' := by
  cases hx : exB n i with
  | true =>
    obtain ⟨k, rfl, hk⟩ := exB_nat hx
    have e : hasI S n (k : Int) = S k := by unfold hasI; rw [hx]; rfl
    rw [e]
    have hc := h.at_ hk
    have hh := h.head
    have hk1 : (k : Int) < (n : Int) := by omega
    have hk0 : decide ((0 : Int) ≤ (k : Int)) = true := by simp
    generalize S k = b at *
    clear h hx e
    go_enter Tryd.func17, Tryd.ntmps17
    go_wp2
    go_ret
    exact ⟨rfl, rfl⟩
  | false =>
    have e : hasI S n i = false := by unfold hasI; rw [hx]; rfl
    rw [e]
    have hh := h.head
    unfold exB at hx
    rw [decide_eq_false_iff_not] at hx
    by_cases h0 : 0 ≤ i
    · have h2 : decide (i < (n : Int)) = false := by simp; omega
      have h1 : decide (0 ≤ i) = true := by simpa using h0
      clear hx h e
      go_enter Tryd.func17, Tryd.ntmps17
      go_wp2
      go_ret
      exact ⟨rfl, rfl⟩
    · have h1 : decide (0 ≤ i) = false := by simpa using h0
      clear hx h e
      go_enter Tryd.func17, Tryd.ntmps17
      go_wp2
      go_ret
      exact ⟨rfl, rfl⟩

theorem rput_any (i : Int) (b : Bool) (h : Rs w q f n S) : Calls Tryd.prog 14 #[ptr q, .int .i64 i, .bool b] w fun e w' => e = .returned (.bool (exB n i && !(S i.toNat == b))) ∧ Rs w' q f n (setI S n i b) ∧ Chg (· = f) w w' := by
  cases hx : exB n i with
  | true =>
    obtain ⟨k, rfl, hk⟩ := exB_nat hx
    rw [setI_in hk, Int.toNat_natCast, Bool.true_and]
    have hc := h.at_ hk
    have hf := h.2.2.frozen k
    have hh := h.head
    have hk1 : decide ((n : Int) ≤ (k : Int)) = false := by simp; omega
    have hk2 : (k : Int) < (n : Int) := by omega
    have hk0 : decide ((k : Int) < 0) = false := by simp
    have H := hide h
    have HU := hide (show S k = b → upd S k b = S from fun e => upd_same e)
    generalize S k = c at *
    clear h hx
    cases c <;> cases b
    · have HE := hide (HU.out rfl)
      clear HU
      go_enter Tryd.func14, Tryd.ntmps14
      go_wp2
      go_ret
      exact ⟨rfl, by rw [HE.out]; exact H.out, Chg.refl _ _⟩
    · clear HU
      go_enter Tryd.func14, Tryd.ntmps14
      go_wp2
      go_ret
      exact ⟨rfl, H.out.set k true, (Chg.refl _ _).set1 _ _⟩
    · clear HU
      go_enter Tryd.func14, Tryd.ntmps14
      go_wp2
      go_ret
      exact ⟨rfl, H.out.set k false, (Chg.refl _ _).set1 _ _⟩
    · have HE := hide (HU.out rfl)
      clear HU
      go_enter Tryd.func14, Tryd.ntmps14
      go_wp2
      go_ret
      exact ⟨rfl, by rw [HE.out]; exact H.out, Chg.refl _ _⟩
  | false =>
    have HE := hide (setI_out (S := S) (b := b) hx)
    have hh := h.head
    have H := hide h
    unfold exB at hx
    rw [decide_eq_false_iff_not] at hx
    by_cases h0 : i < 0
    · have h1 : decide (i < 0) = true := by simpa using h0
      clear hx h
      go_enter Tryd.func14, Tryd.ntmps14
      go_wp2
      go_ret
      exact ⟨rfl, by rw [HE.out]; exact H.out, Chg.refl _ _⟩
    · have h1 : decide (i < 0) = false := by simpa using h0
      have h2 : decide ((n : Int) ≤ i) = true := by simp; omega
      clear hx h
      go_enter Tryd.func14, Tryd.ntmps14
      go_wp2
      go_ret
      exact ⟨rfl, by rw [HE.out]; exact H.out, Chg.refl _ _⟩

theorem rnext_any (i : Int) (h : Rs w q f n S) : Calls Tryd.prog 19 #[ptr q, .int .i64 i] w fun e w' => e = .returned (.int .i64 (nx S n i)) ∧ w = w' := by
  have hh := h.head
  have hn := h.1
  have H := hide h
  clear h
  go_enter Tryd.func19, Tryd.ntmps19
  go_wp2
  go_loopw [11] (fun ix wr => ∃ k : Nat, k ≤ n ∧ ix = .int .i64 k ∧ (∀ j, i.toNat ≤ j → j < k → S j = false) ∧ w = wr) (fun ix _ => n - (intOf ix).toNat)
  case atStart => exact ⟨0, Nat.zero_le _, rfl, fun j h1 h2 => by omega, rfl⟩
  case round =>
    obtain ⟨k, hk, rfl, hbe, rfl⟩ := hrel
    have HBE := hide hbe
    clear hbe
    by_cases hlt : k < n
    · have hc := H.out.at_ hlt
      have hk2 : (k : Int) < (n : Int) := by omega
      by_cases ha : i ≤ (k : Int)
      · have ha1 : decide (i ≤ (k : Int)) = true := decide_eq_true ha
        cases hs : S k with
        | true =>
          have HN := hide (nx_some (S := S) (n := n) (a := i) k (by omega) hlt hs HBE.out)
          rw [hs] at hc
          clear hs
          go_wp2
          go_ret
          exact ⟨ret_int HN.out.symm, rfl⟩
        | false =>
          have HB2 := hide (fun j (h1 : i.toNat ≤ j) (h2 : j < k + 1) => show S j = false from by
            by_cases e : j = k
            · exact e ▸ hs
            · exact HBE.out j h1 (by omega))
          rw [hs] at hc
          clear hs
          go_wp2
          go_roundw
          case rel => exact ⟨k + 1, by omega, by go_num, HB2.out, by first | rfl | trivial⟩
          case measure => simp [intOf]; omega
      · have ha1 : decide (i ≤ (k : Int)) = false := decide_eq_false ha
        have HB2 := hide (fun j (h1 : i.toNat ≤ j) (h2 : j < k + 1) => show S j = false from HBE.out j h1 (by omega))
        clear hc
        go_wp2
        go_roundw
        case rel => exact ⟨k + 1, by omega, by go_num, HB2.out, by first | rfl | trivial⟩
        case measure => simp [intOf]; omega
    · obtain rfl : k = n := by omega
      have HN := hide (nx_none (S := S) (n := k) (a := i) HBE.out)
      go_wp2
      go_ret
      exact ⟨ret_int HN.out.symm, rfl⟩

/-- The places from one on, below another. -/
def rgS (S : Nat → Bool) (a b : Int) : Nat → Bool := fun i => S i && decide (a ≤ (i : Int) ∧ (i : Int) < b)

theorem rbetween_any (a b : Int) (h : Rs w q f n S) : Calls Tryd.prog 21 #[ptr q, .int .i64 a, .int .i64 b] w fun e w' => e = .returned (.int .i64 (btw S n a b)) ∧ w = w' := by
  have hh := h.head
  have hn := h.1
  have H := hide h
  have HB := hide (show btw S n a b = cnt (rgS S a b) n from btw_range S n a b)
  clear h
  go_enter Tryd.func21, Tryd.ntmps21
  go_wp2
  go_loopw [7, 14] (fun s ix wr => ∃ k : Nat, k ≤ n ∧ ix = .int .i64 k ∧ s = .int .i64 (cnt (rgS S a b) k : Nat) ∧ w = wr) (fun _ ix _ => n - (intOf ix).toNat)
  case atStart => exact ⟨0, Nat.zero_le _, rfl, rfl, rfl⟩
  case round =>
    obtain ⟨k, hk, rfl, rfl, rfl⟩ := hrel
    by_cases hlt : k < n
    · have hc := H.out.at_ hlt
      have hk2 : (k : Int) < (n : Int) := by omega
      have hle := cnt_le (rgS S a b) k
      have hr : rgS S a b k = (S k && decide (a ≤ (k : Int) ∧ (k : Int) < b)) := rfl
      have hst := cnt_s (rgS S a b) k
      obtain ⟨c1, hc1⟩ : ∃ c, c = cnt (rgS S a b) k := ⟨_, rfl⟩
      obtain ⟨c2, hc2⟩ : ∃ c, c = cnt (rgS S a b) (k + 1) := ⟨_, rfl⟩
      rw [← hc1] at hle hst ⊢
      rw [← hc2] at hst
      have HC2 := hide hc2
      clear hc1 hc2
      have hw : IntKind.i64.wrap ((c1 : Int) + 1) = (c1 : Int) + 1 := wrap_i64_id _ (by omega)
      rw [hr] at hst
      clear hr
      by_cases ha : a ≤ (k : Int)
      · have ha1 : decide (a ≤ (k : Int)) = true := decide_eq_true ha
        by_cases hb : (k : Int) < b
        · have hb1 : decide ((k : Int) < b) = true := decide_eq_true hb
          rw [decide_eq_true (show a ≤ (k : Int) ∧ (k : Int) < b from ⟨ha, hb⟩), Bool.and_true] at hst
          generalize S k = c at *
          have HST := hide hst
          clear hst
          cases c
          · go_wp2
            go_roundw
            case rel => exact ⟨k + 1, by omega, by go_num, by rw [← HC2.out, HST.out]; rfl, by first | rfl | trivial⟩
            case measure => simp [intOf]; omega
          · go_wp2
            go_roundw
            case rel => exact ⟨k + 1, by omega, by go_num, by rw [← HC2.out, HST.out]; rfl, by first | rfl | trivial⟩
            case measure => simp [intOf]; omega
        · have hb1 : decide ((k : Int) < b) = false := decide_eq_false hb
          rw [decide_eq_false (show ¬ (a ≤ (k : Int) ∧ (k : Int) < b) from fun h => hb h.2), Bool.and_false] at hst
          have HST := hide hst
          clear hst
          go_wp2
          go_roundw
          case rel => exact ⟨k + 1, by omega, by go_num, by rw [← HC2.out, HST.out]; rfl, by first | rfl | trivial⟩
          case measure => simp [intOf]; omega
      · have ha1 : decide (a ≤ (k : Int)) = false := decide_eq_false ha
        rw [decide_eq_false (show ¬ (a ≤ (k : Int) ∧ (k : Int) < b) from fun h => ha h.1), Bool.and_false] at hst
        have HST := hide hst
        clear hst
        go_wp2
        go_roundw
        case rel => exact ⟨k + 1, by omega, by go_num, by rw [← HC2.out, HST.out]; rfl, by first | rfl | trivial⟩
        case measure => simp [intOf]; omega
    · obtain rfl : k = n := by omega
      go_wp2
      go_ret
      exact ⟨ret_int (by rw [HB.out]), rfl⟩
end
end Go.Proofs.YtobecefikkgelaaDoor
