/- Tables of cards: what All and New tell. Conditions: addresses are at most 4096; the table of TrailingZeros64 is as the program's text lays it. -/
import Derived.Test.YtbigdgabjjpffaaDoorL7Call
import Derived.Lib.SliceRun
namespace Go.Proofs.YtbigdgabjjpffaaDoor.L7
open Go.ChangeShapes Go.WideShapes Go.ChangeAt Go.RowKit
open Go.Proofs.YtbigdgabjjpffaaDoor.L3
set_option linter.unusedVariables false

/-- The first addresses of the dirty cards below the k-th. -/
def cds (S : Nat → Bool) (f : Nat) : Nat → List Int
  | 0 => []
  | k + 1 => cds S f k ++ if S k then [((f + 16 * k : Nat) : Int)] else []
theorem cds_upto {S : Nat → Bool} {f j k : Nat} (h : j ≤ k) (hn : ∀ i, j ≤ i → i < k → S i = false) : cds S f k = cds S f j := by
  induction k with
  | zero => obtain rfl : j = 0 := by omega
            rfl
  | succ k ih =>
    by_cases e : j = k + 1
    · rw [e]
    · rw [cds, hn k (by omega) (by omega), ih (by omega) fun i h1 h2 => hn i h1 (by omega)]
      simp
theorem cds_len (S : Nat → Bool) (f k : Nat) : (cds S f k).length = cnt S k := by
  induction k with
  | zero => rfl
  | succ k ih => rw [cds, List.length_append, ih, cnt_s]; cases S k <;> rfl
theorem cds_le (S : Nat → Bool) (f k : Nat) : (cds S f k).length ≤ k := by rw [cds_len]; exact cnt_le S k
theorem cds_snoc {S : Nat → Bool} {f j k : Nat} (h : j ≤ k) (hn : ∀ i, j ≤ i → i < k → S i = false) (hk : S k = true) : cds S f (k + 1) = cds S f j ++ [((f + 16 * k : Nat) : Int)] := by
  rw [cds, hk, cds_upto h hn]
  rfl

theorem own_base {w : World} {b0 base : Nat} {e : TypeId} {size : Nat} {v : Value} {n : Nat} {xs : List Value} (h : w.ownsRow b0 e size v n xs) (hb : base ≤ b0) : w.ownsRow base e size v n xs := by
  obtain ⟨h1, h2⟩ := h
  refine ⟨h1, ?_⟩
  rcases h2 with h2 | ⟨g, cap, cur, rfl, hb1, hh, h3, h4, h5, h6⟩
  · exact .inl h2
  · exact .inr ⟨g, cap, cur, rfl, by omega, hh, h3, h4, h5, h6⟩
/-- A measure for what Next told. -/
def ms (i : Int) : Nat := if i < 0 then 0 else 5000 - i.toNat
theorem ms_neg : ms (-1) = 0 := rfl
theorem ms_nat (k : Nat) : ms (k : Int) = 5000 - k := by unfold ms; rw [if_neg (by omega), Int.toNat_natCast]
section
variable {mp : Option Addr} {pv : Value} {f t n : Nat} {S : Nat → Bool} {w : World}
set_option maxHeartbeats 2000000 in
theorem list_by (h : Cv w pv mp f t) (hf : f ≤ 4096) (hn : n ≤ 4096)
    (hs : ∀ W (i : Int), Grow w W → Calls Tryd.prog 28 #[.pointer mp, .int .i64 i] W fun e w' => e = .returned (.int .i64 (nx S n i)) ∧ Grow W w') :
    Calls Tryd.prog 20 #[pv] w fun e w' => ∃ v, e = .returned v ∧ w'.ownsRow w.heap.size 3 1 v (cds S f n).length (ints (cds S f n)) ∧ Grow w w' := by
  obtain ⟨i0, hi0, hz0, hz1, hz2⟩ := info_parts Tryd.infoInt
  have HI := hide hi0
  have HZ0 := hide hz0
  have HZ1 := hide hz1
  have HZ2 := hide hz2
  clear hi0 hz0 hz1 hz2
  have HNX := hide hs
  have HA := hide (all_any mp f t w pv h)
  have hF : ∀ W (c : Nat), c ≤ 4096 → Calls Tryd.prog 30 #[cdV mp f t, .int .i64 c] W fun e w' => e = .returned (.int .i64 (f + 16 * c : Nat)) ∧ Grow W w' := fun W c hc => first_any mp f t W c _ rfl (by omega)
  have HF := hide hF
  have HN := hide hn
  clear h hs hF hn hf
  go_enter Tryd.func20, Tryd.ntmps20
  go_wp2_with fail
  refine HA.out.mono ?_
  rintro e w1 ⟨rfl, c1⟩
  clear HA
  have hb := Blk.new w1 49 [.pointer mp, .int .i64 f, .int .i64 t]
  have c2 : Grow w (w1.alloc (.cells [.pointer mp, .int .i64 f, .int .i64 t].toArray 49)) := c1.alloc _
  have hsz : w.heap.size ≤ w1.heap.size := c1.size
  clear c1
  go_wp2_with fail
  generalize w1.alloc (.cells #[.pointer mp, .int .i64 f, .int .i64 t] 49) = w2 at *
  generalize w1.heap.size = b at *
  have x0 : w2.cell? ⟨b, 0, none⟩ = some (.pointer mp) := hb.cell 0
  have x1 : w2.cell? ⟨b, 1, none⟩ = some (.int .i64 f) := hb.cell 1
  have x2 : w2.cell? ⟨b, 2, none⟩ = some (.int .i64 t) := hb.cell 2
  refine (HNX.out _ 0 c2).mono ?_
  rintro e w3 ⟨rfl, c3⟩
  replace c2 := c2.trans c3
  replace hb := hb.chg c3 id
  clear x0 x1 x2 c3
  have hbl := hb.lt
  have HB := hide (show w.heap.size ≤ b from hsz)
  clear hsz
  go_wp2
  go_loopw [3, 5] (fun v c wr => ∃ j : Nat, j ≤ n ∧ c = .int .i64 (nx S n j) ∧ wr.ownsRow (b + 1) 3 1 v (cds S f j).length (ints (cds S f j)) ∧ Blk wr b 49 [.pointer mp, .int .i64 f, .int .i64 t] ∧ Grow w wr) (fun _ c _ => ms (intOf c))
  case atStart => exact ⟨0, Nat.zero_le _, rfl, World.ownsRow_nil _ _ _ _, hb, c2⟩
  case round =>
    clear hb c2 hbl
    obtain ⟨j, hj, rfl, hown, hb, cc⟩ := hrel
    rcases nx_cases S n j with ⟨hn, hno⟩ | ⟨k, hn, hj0, hk, hsk, hbe⟩
    · rw [hn]
      rw [Int.toNat_natCast] at hno
      rw [← cds_upto hj hno] at hown
      have HO := hide (own_base hown (show w.heap.size ≤ b + 1 from Nat.le_succ_of_le HB.out))
      obtain ⟨oa, ocap, rfl⟩ := own_len hown
      clear hown hno hn hb
      go_wp2
      go_ret
      exact ⟨_, rfl, HO.out, cc⟩
    · rw [hn]
      rw [Int.toNat_natCast] at hj0 hbe
      have HSN := hide (cds_snoc (f := f) hj0 hbe hsk)
      have hle := cds_le S f j
      obtain ⟨xs, hxs⟩ : ∃ xs, xs = cds S f j := ⟨_, rfl⟩
      rw [← hxs] at hown hle
      have HXS := hide hxs
      have hk4 : k ≤ 4096 := by have := HN.out; omega
      have hq : decide ((k : Int) ≥ 0) = true := by simp
      have hw : IntKind.i64.wrap ((k : Int) + 1) = ((k + 1 : Nat) : Int) := by rw [wrap_i64_id _ (by omega)]; omega
      have HLEN := hide (show xs.length ≤ 4096 by have := HN.out; omega)
      have HK := hide hk
      have HJK := hide hj0
      have hn2 : ∀ i : Int, nx S n i = -1 ∨ (k + 1 : Nat) ≤ nx S n i ∨ True := fun _ => .inr (.inr trivial)
      clear hle hxs hbe hsk hn hj hj0 hk hn2
      obtain ⟨x, hx⟩ : ∃ x, x = f + 16 * k := ⟨_, rfl⟩
      have hF := HF.out
      have HF1 : Hid (∀ W, Calls Tryd.prog 30 #[cdV mp f t, .int .i64 k] W fun e w' => e = .returned (.int .i64 x) ∧ Grow W w') := hide fun W => hx ▸ hF W k hk4
      have HX := hide hx
      obtain ⟨k1, hk1⟩ : ∃ k1, k1 = k + 1 := ⟨_, rfl⟩
      rw [← hk1] at hw
      have HK1 := hide hk1
      have HO0 := hide hown
      clear hF hx hk4 hk1 hown
      have x0 : wr.cell? ⟨b, 0, none⟩ = some (.pointer mp) := hb.cell 0
      have x1 : wr.cell? ⟨b, 1, none⟩ = some (.int .i64 f) := hb.cell 1
      have x2 : wr.cell? ⟨b, 2, none⟩ = some (.int .i64 t) := hb.cell 2
      go_wp2_with fail
      refine (HF1.out _).mono ?_
      rintro e w5 ⟨rfl, c5⟩
      clear x0 x1 x2
      replace hb := hb.chg c5 id
      replace cc := cc.trans c5
      have HO := hide ((own_grow HO0.out c5).alloc (.cells [.int .i64 x].toArray 3))
      clear HO0 c5 HF1
      have HBK := hide (Blk.new w5 3 [.int .i64 x])
      have HC := hide (cc.alloc (.cells [.int .i64 x].toArray 3))
      have HBL := hide hb.lt
      replace hb := hb.alloc (.cells [.int .i64 x].toArray 3)
      clear cc
      go_wp2_with (at_builtin; refine wpList_append_own _ rfl _ _ 33 rfl (b + 1) 3 i0 (.int .i64 0) 1 8 Tryd.underlying33 HI.out HZ0.out HZ1.out HZ2.out rfl (by decide) _ _ _ rfl HO.out ⟨w5.heap.size, 0, none⟩ 1 1 [.int .i64 x] rfl rfl ?c1 ?c2 ?c3 ?c4 ?c5 ?_)
      case c1 => intro j u hj; rw [addr_add, Nat.zero_add, HBK.out.cell]; exact hj
      case c2 => intro u hu; simp at hu; subst hu; rfl
      case c3 => have := HLEN.out; unfold maxLen; omega
      case c4 => have := HLEN.out; omega
      case c5 => rw [World.size_alloc]; have := HBL.out; omega
      intro v' w6 hown3 hgrow _
      have cc := Chg.grownOwn HC.out HO.out (show w.heap.size ≤ b + 1 from Nat.le_succ_of_le HB.out) hgrow
      have hb6 := hb.grownOwn hgrow (by intro e; have := (HO.out.lt b e.symm).1; omega)
      have HO3 := hide hown3
      clear hgrow hown3 HC HO HBK hb
      have x0 : w6.cell? ⟨b, 0, none⟩ = some (.pointer mp) := hb6.cell 0
      go_wp2_with fail
      refine (HNX.out _ _ cc).mono ?_
      rintro e w7 ⟨rfl, c7⟩
      have HO7 := hide (own_grow HO3.out c7)
      have hb7 := hb6.chg c7 id
      have cc7 := cc.trans c7
      clear hb6 cc c7 x0 HO3
      go_wp2
      go_roundw
      case rel =>
        refine ⟨k1, by have := HK.out; have := HK1.out; omega, rfl, ?_, hb7, cc7⟩
        have e1 : cds S f k1 = xs ++ [(x : Int)] := by rw [HK1.out, HXS.out, HX.out]; exact HSN.out
        rw [e1, List.length_append, List.length_singleton]
        have := HO7.out
        simpa [ints] using this
      case measure =>
        have h1 := HK.out
        have h2 := HK1.out
        have h3 := HN.out
        show ms (nx S n (k1 : Nat)) < ms (k : Int)
        rw [ms_nat]
        rcases nx_cases S n (k1 : Nat) with ⟨h, _⟩ | ⟨q, h, h4, h5, _⟩
        · rw [h, ms_neg]; omega
        · rw [h, ms_nat]; rw [Int.toNat_natCast] at h4; omega
end
end Go.Proofs.YtbigdgabjjpffaaDoor.L7
