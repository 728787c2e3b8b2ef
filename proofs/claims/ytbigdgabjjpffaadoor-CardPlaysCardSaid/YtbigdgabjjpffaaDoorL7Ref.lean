/- What the calls of package gleaningref07 (the plain table of cards) do. Conditions: addresses are at most 4096. -/
import Derived.Test.YtbigdgabjjpffaaDoorL7Sta
import Derived.Laws.AppendOwnNone
import Derived.Test.YtbigdgabjjpffaaDoorOpen
namespace Go.Proofs.YtbigdgabjjpffaaDoor.L7
open Go.ChangeShapes Go.WideShapes Go.ChangeAt Go.RowKit
open Go.Proofs.YtbigdgabjjpffaaDoor.L3
set_option linter.unusedVariables false

/-- The plain table in block q, from f on below t, with the list l, which lies in no block of G. -/
structure Rt (w : World) (q f t : Nat) (a : Option Addr) (n c : Nat) (l : List Int) (G : Nat → Prop) : Prop where
  hd : Blk w q 35 [.int .i64 f, .int .i64 t, .slice a n c]
  ro : Ro w a n l G
  nc : n ≤ c
  cm : c ≤ maxLen
  n4 : n ≤ 4096
  Gq : G q
  t4 : t ≤ 4096
  ft : f ≤ t
  nil : a = none → n = 0 ∧ c = 0
section
variable {w w' : World} {q f t n c : Nat} {a : Option Addr} {l : List Int} {G C : Nat → Prop}
theorem Rt.chg (h : Rt w q f t a n c l G) (k : Chg C w w') (hq : ¬ C q) (hC : ∀ i, C i → G i) : Rt w' q f t a n c l G := ⟨h.hd.chg k hq, h.ro.chg k hC, h.nc, h.cm, h.n4, h.Gq, h.t4, h.ft, h.nil⟩
theorem Rt.grow (h : Rt w q f t a n c l G) (k : Grow w w') : Rt w' q f t a n c l G := h.chg k id fun _ h => h.elim

/-- The first address of an address's card, or -1. -/
def kc (f t : Nat) (x : Int) : Int := if inn f t x then ((f + 16 * cd f x : Nat) : Int) else -1
theorem rcard_any (h : Rt w q f t a n c l G) (x : Int) : Calls Tryd.prog 26 #[ptr q, .int .i64 x] w fun e w' => e = .returned (.int .i64 (kc f t x)) ∧ w = w' := by
  have c0 : w.cell? ⟨q, 0, none⟩ = some (.int .i64 f) := h.hd.cell 0
  have c1 : w.cell? ⟨q, 1, none⟩ = some (.int .i64 t) := h.hd.cell 1
  have ht := h.t4
  clear h
  unfold kc
  cases hi : inn f t x with
  | false =>
    rw [if_neg (by simp)]
    simp only [inn, decide_eq_false_iff_not] at hi
    by_cases h1 : x < (f : Int)
    · clear hi
      go_enter Tryd.func26, Tryd.ntmps26
      go_wp2
      go_ret
      exact ⟨rfl, rfl⟩
    · have h2 : decide (x < (f : Int)) = false := by simpa using h1
      have h3 : decide (x ≥ (t : Int)) = true := by simp; omega
      clear hi h1
      go_enter Tryd.func26, Tryd.ntmps26
      go_wp2
      go_ret
      exact ⟨rfl, rfl⟩
  | true =>
    rw [if_pos rfl]
    simp only [inn, decide_eq_true_eq] at hi
    have h2 : decide (x < (f : Int)) = false := by simp; omega
    have h3 : decide (x ≥ (t : Int)) = false := by simp; omega
    obtain ⟨d, hd⟩ : ∃ d : Nat, (x - f).toNat = d := ⟨_, rfl⟩
    have h4 : IntKind.i64.wrap (x - (f : Int)) = (d : Int) := by rw [wrap_i64_id _ (by omega)]; omega
    obtain ⟨K, hK⟩ : ∃ K : Nat, f + 16 * cd f x = K := ⟨_, rfl⟩
    have h5 : IntKind.i64.wrap (x - (d : Int) % 16) = (K : Int) := by rw [wrap_i64_id _ (by omega), ← hK]; unfold cd; rw [hd]; omega
    have h6 : IntKind.i64.wrap ((d : Int) % 16) = (d : Int) % 16 := wrap_i64_id _ (by omega)
    rw [hK]
    have HD := hide hd
    clear hi hd hK
    go_enter Tryd.func26, Tryd.ntmps26
    go_wp2
    go_ret
    exact ⟨rfl, rfl⟩

/-- Is a number in the list? -/
theorem rdirty_any (h : Rt w q f t a n c l G) (x : Int) (b : Bool) (hb : b = true ↔ ∃ j, j < n ∧ l.getD j 0 = kc f t x) : Calls Tryd.prog 15 #[ptr q, .int .i64 x] w fun e w' => e = .returned (.bool b) ∧ w = w' := by
  have H := hide h
  have HB := hide hb
  have c2 : w.cell? ⟨q, 2, none⟩ = some (.slice a n c) := h.hd.cell 2
  have HC := hide (rcard_any h x)
  have hn := h.n4
  generalize kc f t x = K at *
  clear h hb
  go_enter Tryd.func15, Tryd.ntmps15
  go_wp2_with fail
  refine HC.out.mono ?_
  rintro e w' ⟨rfl, rfl⟩
  go_wp2
  go_loopw [15] (fun i wr => ∃ k : Nat, k ≤ n ∧ i = .int .i64 k ∧ (∀ j, j < k → l.getD j 0 ≠ K) ∧ w = wr) (fun i _ => n - (intOf i).toNat)
  case atStart => exact ⟨0, Nat.zero_le _, rfl, fun j hj => absurd hj (Nat.not_lt_zero _), rfl⟩
  case round =>
    obtain ⟨k, hk, rfl, hno, rfl⟩ := hrel
    by_cases hlt : k < n
    · obtain ⟨ad, hae, hc⟩ := H.out.ro.at_ hlt
      subst hae
      have hlt' : (k : Int) < (n : Int) := by omega
      have HNO := hide hno
      obtain ⟨y, hy⟩ : ∃ y, l.getD k 0 = y := ⟨_, rfl⟩
      rw [hy] at hc
      have HY := hide hy
      clear hno hy
      by_cases e : y = K
      · subst e
        have hbt : b = true := HB.out.2 ⟨k, hlt, HY.out⟩
        subst hbt
        have q1 : (y == y) = true := by simp
        go_wp2
        go_ret
        exact ⟨rfl, rfl⟩
      · have q1 : (y == K) = false := by simpa using e
        go_wp2
        go_roundw
        case rel => exact ⟨k + 1, by omega, by go_num, fun j hj => by
          by_cases e2 : j = k
          · subst e2; rw [HY.out]; exact e
          · exact HNO.out j (by omega), by first | rfl | trivial⟩
        case measure => simp [intOf]; omega
    · obtain rfl : n = k := by omega
      have hbf : b = false := by
        cases hb : b with
        | false => rfl
        | true => obtain ⟨j, h1, h2⟩ := HB.out.1 hb; exact absurd h2 (hno j h1)
      subst hbf
      clear hno hk hlt
      go_wp2
      go_ret
      exact ⟨rfl, rfl⟩

theorem rtake_none (h : Rt w q f t a 0 c l G) : Calls Tryd.prog 17 #[ptr q] w fun e w' => e = .returned (.tuple #[.int .i64 0, .int .i64 0, .bool false]) ∧ w = w' := by
  have c2 : w.cell? ⟨q, 2, none⟩ = some (.slice a 0 c) := h.hd.cell 2
  clear h
  go_enter Tryd.func17, Tryd.ntmps17
  go_wp2
  go_returns
  exact ⟨rfl, rfl⟩

theorem _root_.Go.Proofs.YtbigdgabjjpffaaDoor.L7.Ro.drop {w : World} {ad : Addr} {n : Nat} {l : List Int} {G : Nat → Prop} (h : Ro w (some ad) n l G) (m : Nat) (hm : m ≤ n) : Ro w (some (ad.add m)) (n - m) (l.drop m) G := by
  obtain ⟨⟨h1, h2⟩, h3⟩ := h
  refine ⟨⟨by rw [List.length_drop, h1], fun hn => ⟨_, rfl, fun i hi => ?_⟩⟩, fun hn x e => ?_⟩
  · obtain ⟨x, e, hx⟩ := h2 (by omega)
    injection e with e
    subst e
    rw [add_add, hx (m + i) (by omega)]
    simp [List.getD_eq_getElem?_getD, List.getElem?_drop]
  · injection e with e
    subst e
    rw [add_block]
    exact h3 (by omega) ad rfl
set_option maxHeartbeats 1000000 in
theorem rtake_some {ad : Addr} (h : Rt w q f t (some ad) (n + 1) c l G) {K y : Nat} (hK : l.getD 0 0 = (K : Int)) (hK4 : K ≤ 4096) (hy : y = min (K + 16) t) :
    Calls Tryd.prog 17 #[ptr q] w fun e w' => e = .returned (.tuple #[.int .i64 K, .int .i64 y, .bool true]) ∧ (∃ a', Rt w' q f t a' n (c - 1) (l.drop 1) G) ∧ Chg (· = q) w w' := by
  have H := hide h
  have c1 : w.cell? ⟨q, 1, none⟩ = some (.int .i64 t) := h.hd.cell 1
  have c2 : w.cell? ⟨q, 2, none⟩ = some (.slice (some ad) (n + 1) c) := h.hd.cell 2
  have hf := h.hd.frozen 2
  obtain ⟨ad', e', hc⟩ := h.ro.at_ (Nat.succ_pos n)
  injection e' with e'
  subst e'
  rw [hK, show ad.add 0 = ad by unfold Addr.add; simp] at hc
  have q0 : ((n : Int) + 1 == 0) = false := by simp; omega
  have hnc := h.nc
  have hcm := h.cm
  have hn4 := h.n4
  have hmn : ∀ ts ty W, (Builtin.min_ ts ty #[.int .i64 (K + 16 : Nat), .int .i64 t]).run Tryd.prog W = .ok (.int .i64 y) W := fun ts ty W => by
    rw [run_min_int2, hy, show (if (t : Int) < ((K + 16 : Nat) : Int) then (t : Int) else ((K + 16 : Nat) : Int)) = ((min (K + 16) t : Nat) : Int) by split <;> omega]
  have HMN := hide hmn
  have HW := hide (show IntKind.i64.wrap ((K : Int) + 16) = ((K + 16 : Nat) : Int) by rw [wrap_i64_id _ (by omega)]; omega)
  clear h hK hy hmn
  generalize K + 16 = K16 at *
  by_cases h1 : c = 1
  · subst h1
    obtain rfl : n = 0 := by omega
    have HN := hide (show Blk (w.setCell ⟨q, 2, none⟩ (.slice (some ad) 0 0)) q 35 [.int .i64 f, .int .i64 t, .slice (some ad) 0 0] from H.out.hd.set_ 2 _)
    have HC := hide ((Chg.refl (· = q) w).set1 2 (.slice (some ad) 0 0))
    go_enter Tryd.func17, Tryd.ntmps17
    go_wp2_with fail
    change Code.wp _ _ _ _ (w.setCell ⟨q, 2, none⟩ (.slice (some ad) 0 0))
    generalize w.setCell ⟨q, 2, none⟩ (.slice (some ad) 0 0) = w2 at *
    clear c1 c2 hc hf
    have c1 : w2.cell? ⟨q, 1, none⟩ = some (.int .i64 t) := HN.out.cell 1
    have hmn := HMN.out
    have hw := HW.out
    go_quiet (fail)
    go_wp2
    go_returns
    exact ⟨rfl, ⟨some ad, HN.out.drewN _, ⟨⟨by have := H.out.ro.1.1; rw [List.length_drop]; omega, fun h => absurd h (by omega)⟩, fun h => absurd h (by omega)⟩, by omega, by omega, by omega, H.out.Gq, H.out.t4, H.out.ft, fun h => by cases h⟩, HC.out.drewN _⟩
  · skip
    have HN := hide (show Blk (w.setCell ⟨q, 2, none⟩ (.slice (some (ad.add 1)) n (c - 1))) q 35 [.int .i64 f, .int .i64 t, .slice (some (ad.add 1)) n (c - 1)] from H.out.hd.set_ 2 _)
    have HC := hide ((Chg.refl (· = q) w).set1 2 (.slice (some (ad.add 1)) n (c - 1)))
    go_enter Tryd.func17, Tryd.ntmps17
    go_wp2_with fail
    change Code.wp _ _ _ _ (w.setCell ⟨q, 2, none⟩ (.slice (some (ad.add 1)) n (c - 1)))
    generalize w.setCell ⟨q, 2, none⟩ (.slice (some (ad.add 1)) n (c - 1)) = w2 at *
    clear c1 c2 hc hf
    have c1 : w2.cell? ⟨q, 1, none⟩ = some (.int .i64 t) := HN.out.cell 1
    have hmn := HMN.out
    have hw := HW.out
    go_quiet (fail)
    go_wp2
    go_returns
    have hr := H.out.ro.drop 1 (by omega)
    exact ⟨rfl, ⟨some (ad.add 1), HN.out.drewN _, hr.chg (HC.out.drewN _) (fun i (hi : i = q) => hi ▸ H.out.Gq), by omega, by omega, by omega, H.out.Gq, H.out.t4, H.out.ft, fun h => by cases h⟩, HC.out.drewN _⟩
end

/-- What New makes. -/
theorem rnew_any (a b : Int) (w : World) {F T : Nat} (hF : clamp a = F) (hT : tob a b = T) : Calls Tryd.prog 11 #[.int .i64 a, .int .i64 b] w fun e w' => e = .returned (ptr w.heap.size) ∧ Blk w' w.heap.size 35 [.int .i64 F, .int .i64 T, .slice none 0 0] ∧ Grow w w' := by
  obtain ⟨ma, hma⟩ : ∃ m : Int, min a 4096 = m := ⟨_, rfl⟩
  obtain ⟨mb, hmb⟩ : ∃ m : Int, min b 4096 = m := ⟨_, rfl⟩
  obtain ⟨B, hB⟩ : ∃ B, clamp b = B := ⟨_, rfl⟩
  have hTT : T = max B F := by rw [← hT, ← hB, ← hF]; rfl
  have h1 : ∀ ts ty W, (Builtin.min_ ts ty #[.int .i64 a, .int .i64 4096]).run Tryd.prog W = .ok (.int .i64 ma) W := fun ts ty W => by
    rw [run_min_int2, ← hma]; congr 2; split <;> omega
  have h2 : ∀ ts ty W, (Builtin.max_ ts ty #[.int .i64 0, .int .i64 ma]).run Tryd.prog W = .ok (.int .i64 F) W := fun ts ty W => by
    rw [run_max_int2, ← hF, ← hma]; congr 2; unfold clamp; split <;> omega
  have h3 : ∀ ts ty W, (Builtin.min_ ts ty #[.int .i64 b, .int .i64 4096]).run Tryd.prog W = .ok (.int .i64 mb) W := fun ts ty W => by
    rw [run_min_int2, ← hmb]; congr 2; split <;> omega
  have h4 : ∀ ts ty W, (Builtin.max_ ts ty #[.int .i64 0, .int .i64 mb]).run Tryd.prog W = .ok (.int .i64 B) W := fun ts ty W => by
    rw [run_max_int2, ← hB, ← hmb]; congr 2; unfold clamp; split <;> omega
  have h5 : ∀ ts ty W, (Builtin.max_ ts ty #[.int .i64 F, .int .i64 B]).run Tryd.prog W = .ok (.int .i64 T) W := fun ts ty W => by
    rw [run_max_int2, hTT]; congr 2; split <;> omega
  have hb := Blk.new w 35 [.int .i64 F, .int .i64 B, .slice none 0 0]
  have cc : Grow w (w.alloc (.cells [.int .i64 F, .int .i64 B, .slice none 0 0].toArray 35)) := Grow.box _ _
  have hs : Fresh w w.heap.size := Nat.le_refl _
  clear hF hT hma hmb hB hTT
  go_enter Tryd.func11, Tryd.ntmps11
  go_wp2_with fail
  generalize w.alloc (.cells #[.int .i64 F, .int .i64 B, .slice none 0 0] 35) = w2 at *
  obtain ⟨r, hr⟩ : ∃ r, w.heap.size = r := ⟨_, rfl⟩
  rw [hr] at hb hs ⊢
  have HR := hide hr
  clear hr
  have x0 : w2.cell? ⟨r, 0, none⟩ = some (.int .i64 F) := hb.cell 0
  have x1 : w2.cell? ⟨r, 1, none⟩ = some (.int .i64 B) := hb.cell 1
  have hf := hb.frozen 1
  have HB := hide hb
  have HF := hide (hs.put cc 1 (.int .i64 T))
  clear hb cc hs
  go_still_tail 12, (by kernel_rfl)
  change wpList _ _ _ _ _ (World.drew _)
  go_wp2
  go_ret
  rw [HR.out]
  exact ⟨rfl, (HB.out.set_ 1 _).drew, HF.out.drew⟩
end Go.Proofs.YtbigdgabjjpffaaDoor.L7
