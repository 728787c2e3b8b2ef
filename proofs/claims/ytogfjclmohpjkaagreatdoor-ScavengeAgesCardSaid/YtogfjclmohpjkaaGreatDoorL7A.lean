/- Tables of cards: what a table is, as numbers; the calls of package card that only look at the struct. Conditions: addresses are at most 4096. -/
import Derived.Test.YtogfjclmohpjkaaGreatDoorL3A
import Derived.Test.YtogfjclmohpjkaaGreatDoorOwn
import Derived.Test.YtogfjclmohpjkaaGreatDoorInts
import Derived.Deep.RegionHeld3
import Derived.Lib.SliceRun
import Derived.Test.YtogfjclmohpjkaaGreatDoorL1A
namespace Go.Proofs.YtogfjclmohpjkaaGreatDoor.L7
open Go.ChangeShapes Go.WideShapes Go.ChangeAt Go.RowKit
open Go.Proofs.YtogfjclmohpjkaaGreatDoor.L3
set_option linter.unusedVariables false
set_option maxRecDepth 100000

/-- The value of the cards. -/
abbrev cdV (mp : Option Addr) (f t : Nat) : Value := .agg #[.pointer mp, .int .i64 f, .int .i64 t]
/-- Is it an address; its card; the card's number, as the program says it; how many cards there are. -/
def inn (f t : Nat) (a : Int) : Bool := decide ((f : Int) ≤ a ∧ a < (t : Int))
def cd (f : Nat) (a : Int) : Nat := (a - f).toNat / 16
def num (f t : Nat) (a : Int) : Int := if inn f t a then (cd f a : Nat) else -1
def nc (f t : Nat) : Nat := (t - f + 15) / 16
theorem nc_lt {f t : Nat} {a : Int} (h : inn f t a = true) : cd f a < nc f t := by
  simp only [inn, decide_eq_true_eq] at h
  unfold cd nc
  omega
theorem ex_num (f t : Nat) (a : Int) : exB (nc f t) (num f t a) = inn f t a := by
  unfold num
  cases h : inn f t a with
  | true => rw [if_pos rfl]; exact exB_in (nc_lt h)
  | false => exact exB_out (.inl (by simp))
theorem num_in {f t : Nat} {a : Int} (h : inn f t a = true) : num f t a = (cd f a : Nat) := by unfold num; rw [h, if_pos rfl]
theorem num_out {f t : Nat} {a : Int} (h : inn f t a = false) : num f t a = -1 := by unfold num; rw [h]; rfl

/-- What a pointer to a table holds: its map, its bounds; nil holds none. -/
def Cv (w : World) (pv : Value) (mp : Option Addr) (f t : Nat) : Prop := (pv = .pointer none ∧ mp = none ∧ f = 0 ∧ t = 0) ∨ ∃ b, pv = ptr b ∧ Blk w b 97 [.pointer mp, .int .i64 f, .int .i64 t]
theorem Cv.grow {w w' : World} {pv : Value} {mp : Option Addr} {f t : Nat} (h : Cv w pv mp f t) (c : Grow w w') : Cv w' pv mp f t :=
  h.imp id fun ⟨b, e1, hb⟩ => ⟨b, e1, hb.chg c id⟩

section
variable (mp : Option Addr) (f t : Nat) (w : World)
theorem number_any (a : Int) (ht : t ≤ 4096) : Calls Tryz.prog 37 #[cdV mp f t, .int .i64 a] w fun e w' => e = .returned (.int .i64 (num f t a)) ∧ Grow w w' := by
  cases h : inn f t a with
  | false =>
    rw [num_out h]
    simp only [inn, decide_eq_false_iff_not] at h
    by_cases h1 : a < (f : Int)
    · clear h
      go_enter Tryz.func37, Tryz.ntmps37
      go_wp2
      go_ret
      exact ⟨rfl, Grow.box _ _⟩
    · have h2 : decide (a < (f : Int)) = false := by simpa using h1
      have h3 : decide (a ≥ (t : Int)) = true := by simp; omega
      clear h h1
      go_enter Tryz.func37, Tryz.ntmps37
      go_wp2
      go_ret
      exact ⟨rfl, Grow.box _ _⟩
  | true =>
    rw [num_in h]
    simp only [inn, decide_eq_true_eq] at h
    have h2 : decide (a < (f : Int)) = false := by simp; omega
    have h3 : decide (a ≥ (t : Int)) = false := by simp; omega
    obtain ⟨d, hd⟩ : ∃ d : Nat, (a - f).toNat = d := ⟨_, rfl⟩
    have h4 : IntKind.i64.wrap (a - (f : Int)) = (d : Int) := by rw [wrap_i64_id _ (by omega)]; omega
    obtain ⟨c, hc⟩ : ∃ c : Nat, cd f a = c := ⟨_, rfl⟩
    have h5 : IntKind.i64.wrap ((d : Int) / 16) = (c : Int) := by rw [wrap_i64_id _ (by omega), ← hc]; unfold cd; rw [hd]; omega
    rw [hc]
    clear h hd hc
    go_enter Tryz.func37, Tryz.ntmps37
    go_wp2
    go_ret
    exact ⟨rfl, Grow.box _ _⟩

/-- The first address of a card. -/
theorem first_any (c x : Nat) (hx : x = f + 16 * c) (hb : x ≤ 2000000) : Calls Tryz.prog 49 #[cdV mp f t, .int .i64 c] w fun e w' => e = .returned (.int .i64 x) ∧ Grow w w' := by
  obtain ⟨y, hy⟩ : ∃ y, y = 16 * c := ⟨_, rfl⟩
  have h1 : IntKind.i64.wrap ((c : Int) * 16) = (y : Int) := by rw [wrap_i64_id _ (by omega)]; omega
  have h2 : IntKind.i64.wrap ((f : Int) + (y : Int)) = (x : Int) := by rw [wrap_i64_id _ (by omega)]; omega
  clear hx hb hy
  go_enter Tryz.func49, Tryz.ntmps49
  go_wp2
  go_ret
  exact ⟨rfl, Grow.box _ _⟩

theorem all_any (pv : Value) (h : Cv w pv mp f t) : Calls Tryz.prog 35 #[pv] w fun e w' => e = .returned (cdV mp f t) ∧ Grow w w' := by
  rcases h with ⟨rfl, rfl, rfl, rfl⟩ | ⟨b, rfl, hb⟩
  · go_enter Tryz.func35, Tryz.ntmps35
    go_wp2
    refine bodyPost_ret (v := cdV none 0 0) (by simp [results, Tryz.results35, go_sem]) rfl ?_
    exact ⟨rfl, Grow.box _ _⟩
  · replace hb := hb.alloc (.cells [.pointer none, .int .i64 0, .int .i64 0].toArray 85)
    have x0 := hb.cell 0
    have x1 := hb.cell 1
    have x2 := hb.cell 2
    simp only [List.getElem?_cons_zero, List.getElem?_cons_succ] at x0 x1 x2
    clear hb
    go_enter Tryz.func35, Tryz.ntmps35
    go_wp2
    refine bodyPost_ret (v := cdV mp f t) (by simp [results, Tryz.results35, go_sem]) rfl ?_
    exact ⟨rfl, Grow.box _ _⟩

theorem clamp_any (v : Int) (n : Nat) (hn : clamp v = n) : Calls Tryz.prog 45 #[.int .i64 v] w fun e w' => e = .returned (.int .i64 n) ∧ w = w' := by
  obtain ⟨m, hm⟩ : ∃ m : Nat, max v 0 = m := ⟨(max v 0).toNat, by omega⟩
  have hmx : ∀ ts t W, (Builtin.max_ ts t #[.int .i64 v, .int .i64 0]).run Tryz.prog W = .ok (.int .i64 m) W := fun ts t W => by
    rw [run_max_int2]; congr 2; split <;> omega
  have hmn : ∀ ts t W, (Builtin.min_ ts t #[.int .i64 m, .int .i64 4096]).run Tryz.prog W = .ok (.int .i64 n) W := fun ts t W => by
    rw [run_min_int2]; congr 2; unfold clamp at hn; split <;> omega
  clear hn hm
  go_enter Tryz.func45, Tryz.ntmps45
  go_wp2
  go_ret
  exact ⟨rfl, rfl⟩
end
end Go.Proofs.YtogfjclmohpjkaaGreatDoor.L7
/- Tables of cards: what Touch, Dirty and Wipe do to a table, or to nil. Conditions: addresses are at most 4096. -/
namespace Go.Proofs.YtogfjclmohpjkaaGreatDoor.L7
open Go.ChangeShapes Go.WideShapes Go.ChangeAt Go.RowKit
open Go.Proofs.YtogfjclmohpjkaaGreatDoor.L3
set_option linter.unusedVariables false
set_option maxRecDepth 100000

section
variable {mp : Option Addr} {pv : Value} {f t : Nat} {w : World}
theorem keep3 {w2 W W' : World} {b : Nat} {ty : TypeId} {u v x : Value} {C : Nat → Prop} (hb : Blk w2 b ty [u, v, x]) (hC : ¬ C b) (c1 : Grow w2 W) (c2 : Chg C W W') :
    W'.cell? ⟨b, 0, none⟩ = some u ∧ W'.cell? ⟨b, 1, none⟩ = some v ∧ W'.cell? ⟨b, 2, none⟩ = some x := by
  have h := (hb.chg c1 id).chg c2 hC
  exact ⟨h.cell 0, h.cell 1, h.cell 2⟩
set_option maxHeartbeats 1000000 in
theorem touch_by {a : Int} {c : Bool} {C : Nat → Prop} {R : World → Prop} (h : Cv w pv mp f t) (ht : t ≤ 4096) (hC : ∀ i, C i → i < w.heap.size)
    (hs : ∀ W, Grow w W → Calls Tryz.prog 36 #[.pointer mp, .int .i64 (num f t a)] W fun e w' => e = .returned (.bool c) ∧ R w' ∧ Chg C W w') :
    Calls Tryz.prog 9 #[pv, .int .i64 a] w fun e w' => e = .returned (.bool c) ∧ R w' ∧ Chg C w w' := by
  have HSET := hide hs
  have HC := hide hC
  clear hs hC
  have HA := hide (all_any mp f t w pv h)
  clear h
  go_enter Tryz.func9, Tryz.ntmps9
  go_wp2_with fail
  refine HA.out.mono ?_
  rintro e w1 ⟨rfl, c1⟩
  clear HA
  have hb := Blk.new w1 85 [.pointer mp, .int .i64 f, .int .i64 t]
  have c2 : Grow w (w1.alloc (.cells [.pointer mp, .int .i64 f, .int .i64 t].toArray 85)) := c1.alloc _
  have HS := hide c1.size
  clear c1
  go_wp2_with fail
  generalize w1.alloc (.cells #[.pointer mp, .int .i64 f, .int .i64 t] 85) = w2 at *
  generalize w1.heap.size = b at *
  have x0 : w2.cell? ⟨b, 0, none⟩ = some (.pointer mp) := hb.cell 0
  have x1 : w2.cell? ⟨b, 1, none⟩ = some (.int .i64 f) := hb.cell 1
  have x2 : w2.cell? ⟨b, 2, none⟩ = some (.int .i64 t) := hb.cell 2
  have HN := hide fun W => number_any mp f t W a ht
  have HBC : Hid (¬ C b) := hide fun h => by have := HC.out b h; have := HS.out; omega
  have HK := hide fun W W' (c1 : Grow w2 W) (c3 : Chg C W W') => keep3 hb HBC.out c1 c3
  have HK0 := hide fun W (c1 : Grow w2 W) => keep3 hb HBC.out c1 (Chg.refl C W)
  clear hb
  generalize num f t a = z at *
  go_region_held3 (fun W => W.cell? ⟨b, 0, none⟩ = some (.pointer mp) ∧ W.cell? ⟨b, 1, none⟩ = some (.int .i64 f) ∧ W.cell? ⟨b, 2, none⟩ = some (.int .i64 t)) (first | exact HK.out _ _ ((Chg.refl _ _).drew.trans c3) c4 | exact HK0.out _ ((Chg.refl _ _).drew.trans c3) | go_keep) (first | (go_at_call 37; refine (HN.out _).mono ?_; rintro e w3 ⟨rfl, c3⟩) | (go_at_call 36; refine (HSET.out _ (c2.drew.trans c3)).mono ?_; rintro e w4 ⟨rfl, r4, c4⟩))
  go_wp2
  go_ret
  exact ⟨rfl, r4, (c2.drew.trans c3 |>.mono (fun _ _ h => h.elim)).trans c4⟩

set_option maxHeartbeats 1000000 in
theorem dirty_by {a : Int} {c : Bool} (h : Cv w pv mp f t) (ht : t ≤ 4096)
    (hs : ∀ W, Grow w W → Calls Tryz.prog 69 #[.pointer mp, .int .i64 (num f t a)] W fun e w' => e = .returned (.bool c) ∧ Grow W w') :
    Calls Tryz.prog 75 #[pv, .int .i64 a] w fun e w' => e = .returned (.bool c) ∧ Grow w w' := by
  have HHAS := hide hs
  clear hs
  have HA := hide (all_any mp f t w pv h)
  clear h
  go_enter Tryz.func75, Tryz.ntmps75
  go_wp2_with fail
  refine HA.out.mono ?_
  rintro e w1 ⟨rfl, c1⟩
  clear HA
  have hb := Blk.new w1 85 [.pointer mp, .int .i64 f, .int .i64 t]
  have c2 : Grow w (w1.alloc (.cells [.pointer mp, .int .i64 f, .int .i64 t].toArray 85)) := c1.alloc _
  have HS := hide c1.size
  clear c1
  go_wp2_with fail
  generalize w1.alloc (.cells #[.pointer mp, .int .i64 f, .int .i64 t] 85) = w2 at *
  generalize w1.heap.size = b at *
  have x0 : w2.cell? ⟨b, 0, none⟩ = some (.pointer mp) := hb.cell 0
  have x1 : w2.cell? ⟨b, 1, none⟩ = some (.int .i64 f) := hb.cell 1
  have x2 : w2.cell? ⟨b, 2, none⟩ = some (.int .i64 t) := hb.cell 2
  have HN := hide fun W => number_any mp f t W a ht
  clear hb
  generalize num f t a = z at *
  have HQ := hide fun W (c3 : Grow w2 W) => HHAS.out W (c2.trans c3)
  refine wp_region_grow (by kernel_rfl) (by kernel_rfl) ?_
  repeat (
    with_reducible refine wpQuiet_step ?_
    intro K hK
    first
      | ((with_reducible refine quiet_offT rfl ?_ (hK _ ?_)); focus (refine ⟨_, rfl, ?_⟩; with_reducible rfl))
      | ((with_reducible refine quiet_offF rfl ?_ (hK _ ?_)); focus (refine ⟨_, rfl, ?_⟩; with_reducible rfl))
      | ((with_reducible refine quiet_offN rfl ?_ (hK _ ?_)); focus (exact rfl))
      | ((first | with_reducible refine quiet_free rfl ?_ | ((with_reducible refine quiet_on rfl ?_ ?_); focus (refine ⟨_, rfl, ?_⟩; with_reducible rfl)))
         apply Exists.intro
         refine ⟨fun Wq hW => ?_, hK _ ?_⟩
         focus (have q0 := Grow.cell hW x0; have q1 := Grow.cell hW x1; have q2 := Grow.cell hW x2; go_simp; first | done | with_reducible rfl | (go_at_call 37; (first | with_reducible exact grown_call hW (HN.out _) | with_reducible exact grown_same hW (HN.out _))) | (go_at_call 69; (first | with_reducible exact grown_call hW (HQ.out _ hW) | with_reducible exact grown_same hW (HQ.out _ hW)))))
    clear hK K
    simp only [Act.put, List.setIfInBounds_toArray, List.set_cons_zero, List.set_cons_succ])
  with_reducible refine wpQuiet_nil ?_
  intro w3 c3
  go_wp2
  go_ret
  exact ⟨rfl, c2.trans c3⟩

theorem wipe_by {C : Nat → Prop} {R : World → Prop} (h : Cv w pv mp f t)
    (hs : ∀ W, Grow w W → Calls Tryz.prog 56 #[.pointer mp] W fun e w' => e = .returned (.tuple #[]) ∧ R w' ∧ Chg C W w') :
    Calls Tryz.prog 24 #[pv] w fun e w' => e = .returned (.tuple #[]) ∧ R w' ∧ Chg C w w' := by
  have HW := hide hs
  have hfd : ∀ W, (Instr.field 85 (cdV mp f t) 0).run Tryz.prog W = .ok (.pointer mp) W := fun W => by kernel_rfl
  clear hs
  have HA := hide (all_any mp f t w pv h)
  clear h
  go_enter Tryz.func24, Tryz.ntmps24
  go_wp2_with fail
  refine HA.out.mono ?_
  rintro e w1 ⟨rfl, c1⟩
  go_wp2_with fail
  refine (HW.out _ c1).mono ?_
  rintro e w2 ⟨rfl, r2, c2⟩
  go_wp2
  go_returns
  exact ⟨rfl, r2, (c1.mono (fun _ _ h => h.elim)).trans c2⟩

end
end Go.Proofs.YtogfjclmohpjkaaGreatDoor.L7
/- Tables of cards: what All and New tell. Conditions: addresses are at most 4096; the table of TrailingZeros64 is as the program's text lays it. -/
namespace Go.Proofs.YtogfjclmohpjkaaGreatDoor.L7
open Go.ChangeShapes Go.WideShapes Go.ChangeAt Go.RowKit
open Go.Proofs.YtogfjclmohpjkaaGreatDoor.L3
set_option linter.unusedVariables false
set_option maxRecDepth 100000

/-- The first addresses of the dirty cards below the k-th. -/
def cds (S : Nat → Bool) (f : Nat) : Nat → List Int
  | 0 => []
  | k + 1 => cds S f k ++ if S k then [((f + 16 * k : Nat) : Int)] else []
theorem cds_upto {S : Nat → Bool} {f j k : Nat} (h : j ≤ k) (hn : ∀ i, j ≤ i → i < k → S i = false) : cds S f k = cds S f j := by
  induction k with
  | zero => obtain rfl : j = 0 := by omega
            rfl
  | succ k ih =>
    by_cases e : j = k + 1
    · rw [e]
    · rw [cds, hn k (by omega) (by omega), ih (by omega) fun i h1 h2 => hn i h1 (by omega)]
      simp
theorem cds_len (S : Nat → Bool) (f k : Nat) : (cds S f k).length = cnt S k := by
  induction k with
  | zero => rfl
  | succ k ih => rw [cds, List.length_append, ih, cnt_s]; cases S k <;> rfl
theorem cds_le (S : Nat → Bool) (f k : Nat) : (cds S f k).length ≤ k := by rw [cds_len]; exact cnt_le S k
theorem cds_snoc {S : Nat → Bool} {f j k : Nat} (h : j ≤ k) (hn : ∀ i, j ≤ i → i < k → S i = false) (hk : S k = true) : cds S f (k + 1) = cds S f j ++ [((f + 16 * k : Nat) : Int)] := by
  rw [cds, hk, cds_upto h hn]
  rfl

theorem own_base {w : World} {b0 base : Nat} {e : TypeId} {size : Nat} {v : Value} {n : Nat} {xs : List Value} (h : w.ownsRow b0 e size v n xs) (hb : base ≤ b0) : w.ownsRow base e size v n xs := by
  obtain ⟨h1, h2⟩ := h
  refine ⟨h1, ?_⟩
  rcases h2 with h2 | ⟨g, cap, cur, rfl, hb1, hh, h3, h4, h5, h6⟩
  · exact .inl h2
  · exact .inr ⟨g, cap, cur, rfl, by omega, hh, h3, h4, h5, h6⟩
/-- A measure for what Next told. -/
def ms (i : Int) : Nat := if i < 0 then 0 else 5000 - i.toNat
theorem ms_neg : ms (-1) = 0 := rfl
theorem ms_nat (k : Nat) : ms (k : Int) = 5000 - k := by unfold ms; rw [if_neg (by omega), Int.toNat_natCast]
section
variable {mp : Option Addr} {pv : Value} {f t n : Nat} {S : Nat → Bool} {w : World}
set_option maxHeartbeats 2000000 in
theorem list_by (h : Cv w pv mp f t) (hf : f ≤ 4096) (hn : n ≤ 4096)
    (hs : ∀ W (i : Int), Grow w W → Calls Tryz.prog 48 #[.pointer mp, .int .i64 i] W fun e w' => e = .returned (.int .i64 (nx S n i)) ∧ Grow W w') :
    Calls Tryz.prog 15 #[pv] w fun e w' => ∃ v, e = .returned v ∧ w'.ownsRow w.heap.size 3 1 v (cds S f n).length (ints (cds S f n)) ∧ Grow w w' := by
  obtain ⟨i0, hi0, hz0, hz1, hz2⟩ := info_parts Tryz.infoInt
  have HI := hide hi0
  have HZ0 := hide hz0
  have HZ1 := hide hz1
  have HZ2 := hide hz2
  clear hi0 hz0 hz1 hz2
  have HNX := hide hs
  have HA := hide (all_any mp f t w pv h)
  have hF : ∀ W (c : Nat), c ≤ 4096 → Calls Tryz.prog 49 #[cdV mp f t, .int .i64 c] W fun e w' => e = .returned (.int .i64 (f + 16 * c : Nat)) ∧ Grow W w' := fun W c hc => first_any mp f t W c _ rfl (by omega)
  have HF := hide hF
  have HN := hide hn
  clear h hs hF hn hf
  go_enter Tryz.func15, Tryz.ntmps15
  go_wp2_with fail
  refine HA.out.mono ?_
  rintro e w1 ⟨rfl, c1⟩
  clear HA
  have hb := Blk.new w1 85 [.pointer mp, .int .i64 f, .int .i64 t]
  have c2 : Grow w (w1.alloc (.cells [.pointer mp, .int .i64 f, .int .i64 t].toArray 85)) := c1.alloc _
  have hsz : w.heap.size ≤ w1.heap.size := c1.size
  clear c1
  go_wp2_with fail
  generalize w1.alloc (.cells #[.pointer mp, .int .i64 f, .int .i64 t] 85) = w2 at *
  generalize w1.heap.size = b at *
  have x0 : w2.cell? ⟨b, 0, none⟩ = some (.pointer mp) := hb.cell 0
  have x1 : w2.cell? ⟨b, 1, none⟩ = some (.int .i64 f) := hb.cell 1
  have x2 : w2.cell? ⟨b, 2, none⟩ = some (.int .i64 t) := hb.cell 2
  refine (HNX.out _ 0 c2).mono ?_
  rintro e w3 ⟨rfl, c3⟩
  replace c2 := c2.trans c3
  replace hb := hb.chg c3 id
  clear x0 x1 x2 c3
  have hbl := hb.lt
  have HB := hide (show w.heap.size ≤ b from hsz)
  clear hsz
  go_wp2
  go_loopw [3, 5] (fun v c wr => ∃ j : Nat, j ≤ n ∧ c = .int .i64 (nx S n j) ∧ wr.ownsRow (b + 1) 3 1 v (cds S f j).length (ints (cds S f j)) ∧ Blk wr b 85 [.pointer mp, .int .i64 f, .int .i64 t] ∧ Grow w wr) (fun _ c _ => ms (intOf c))
  case atStart => exact ⟨0, Nat.zero_le _, rfl, World.ownsRow_nil _ _ _ _, hb, c2⟩
  case round =>
    clear hb c2 hbl
    obtain ⟨j, hj, rfl, hown, hb, cc⟩ := hrel
    rcases nx_cases S n j with ⟨hn, hno⟩ | ⟨k, hn, hj0, hk, hsk, hbe⟩
    · rw [hn]
      rw [Int.toNat_natCast] at hno
      rw [← cds_upto hj hno] at hown
      have HO := hide (own_base hown (show w.heap.size ≤ b + 1 from Nat.le_succ_of_le HB.out))
      obtain ⟨oa, ocap, rfl⟩ := own_len hown
      clear hown hno hn hb
      go_wp2
      go_ret
      exact ⟨_, rfl, HO.out, cc⟩
    · rw [hn]
      rw [Int.toNat_natCast] at hj0 hbe
      have HSN := hide (cds_snoc (f := f) hj0 hbe hsk)
      have hle := cds_le S f j
      obtain ⟨xs, hxs⟩ : ∃ xs, xs = cds S f j := ⟨_, rfl⟩
      rw [← hxs] at hown hle
      have HXS := hide hxs
      have hk4 : k ≤ 4096 := by have := HN.out; omega
      have hq : decide ((k : Int) ≥ 0) = true := by simp
      have hw : IntKind.i64.wrap ((k : Int) + 1) = ((k + 1 : Nat) : Int) := by rw [wrap_i64_id _ (by omega)]; omega
      have HLEN := hide (show xs.length ≤ 4096 by have := HN.out; omega)
      have HK := hide hk
      have HJK := hide hj0
      have hn2 : ∀ i : Int, nx S n i = -1 ∨ (k + 1 : Nat) ≤ nx S n i ∨ True := fun _ => .inr (.inr trivial)
      clear hle hxs hbe hsk hn hj hj0 hk hn2
      obtain ⟨x, hx⟩ : ∃ x, x = f + 16 * k := ⟨_, rfl⟩
      have hF := HF.out
      have HF1 : Hid (∀ W, Calls Tryz.prog 49 #[cdV mp f t, .int .i64 k] W fun e w' => e = .returned (.int .i64 x) ∧ Grow W w') := hide fun W => hx ▸ hF W k hk4
      have HX := hide hx
      obtain ⟨k1, hk1⟩ : ∃ k1, k1 = k + 1 := ⟨_, rfl⟩
      rw [← hk1] at hw
      have HK1 := hide hk1
      have HO0 := hide hown
      clear hF hx hk4 hk1 hown
      have x0 : wr.cell? ⟨b, 0, none⟩ = some (.pointer mp) := hb.cell 0
      have x1 : wr.cell? ⟨b, 1, none⟩ = some (.int .i64 f) := hb.cell 1
      have x2 : wr.cell? ⟨b, 2, none⟩ = some (.int .i64 t) := hb.cell 2
      go_wp2_with fail
      refine (HF1.out _).mono ?_
      rintro e w5 ⟨rfl, c5⟩
      clear x0 x1 x2
      replace hb := hb.chg c5 id
      replace cc := cc.trans c5
      have HO := hide ((own_grow HO0.out c5).alloc (.cells [.int .i64 x].toArray 3))
      clear HO0 c5 HF1
      have HBK := hide (Blk.new w5 3 [.int .i64 x])
      have HC := hide (cc.alloc (.cells [.int .i64 x].toArray 3))
      have HBL := hide hb.lt
      replace hb := hb.alloc (.cells [.int .i64 x].toArray 3)
      clear cc
      go_wp2_with (at_builtin; refine wpList_append_own _ rfl _ _ 37 rfl (b + 1) 3 i0 (.int .i64 0) 1 8 Tryz.underlying37 HI.out HZ0.out HZ1.out HZ2.out rfl (by decide) _ _ _ rfl HO.out ⟨w5.heap.size, 0, none⟩ 1 1 [.int .i64 x] rfl rfl ?c1 ?c2 ?c3 ?c4 ?c5 ?_)
      case c1 => intro j u hj; rw [addr_add, Nat.zero_add, HBK.out.cell]; exact hj
      case c2 => intro u hu; simp at hu; subst hu; rfl
      case c3 => have := HLEN.out; unfold maxLen; omega
      case c4 => have := HLEN.out; omega
      case c5 => rw [World.size_alloc]; have := HBL.out; omega
      intro v' w6 hown3 hgrow _
      have cc := Chg.grownOwn HC.out HO.out (show w.heap.size ≤ b + 1 from Nat.le_succ_of_le HB.out) hgrow
      have hb6 := hb.grownOwn hgrow (by intro e; have := (HO.out.lt b e.symm).1; omega)
      have HO3 := hide hown3
      clear hgrow hown3 HC HO HBK hb
      have x0 : w6.cell? ⟨b, 0, none⟩ = some (.pointer mp) := hb6.cell 0
      go_wp2_with fail
      refine (HNX.out _ _ cc).mono ?_
      rintro e w7 ⟨rfl, c7⟩
      have HO7 := hide (own_grow HO3.out c7)
      have hb7 := hb6.chg c7 id
      have cc7 := cc.trans c7
      clear hb6 cc c7 x0 HO3
      go_wp2
      go_roundw
      case rel =>
        refine ⟨k1, by have := HK.out; have := HK1.out; omega, rfl, ?_, hb7, cc7⟩
        have e1 : cds S f k1 = xs ++ [(x : Int)] := by rw [HK1.out, HXS.out, HX.out]; exact HSN.out
        rw [e1, List.length_append, List.length_singleton]
        have := HO7.out
        simpa [ints] using this
      case measure =>
        have h1 := HK.out
        have h2 := HK1.out
        have h3 := HN.out
        show ms (nx S n (k1 : Nat)) < ms (k : Int)
        rw [ms_nat]
        rcases nx_cases S n (k1 : Nat) with ⟨h, _⟩ | ⟨q, h, h4, h5, _⟩
        · rw [h, ms_neg]; omega
        · rw [h, ms_nat]; rw [Int.toNat_natCast] at h4; omega
end
end Go.Proofs.YtogfjclmohpjkaaGreatDoor.L7
/- Tables of cards in the words of the set of dirty cards: the calls of package card, of a table and of nil; that 'awake' answers true. Conditions: the table of TrailingZeros64 is as the program's text lays it. -/
namespace Go.Proofs.YtogfjclmohpjkaaGreatDoor.L7
open Go.ChangeShapes Go.WideShapes Go.ChangeAt Go.RowKit
open Go.Proofs.YtogfjclmohpjkaaGreatDoor.L3
set_option linter.unusedVariables false
set_option maxRecDepth 100000

/-- A table in block p, from f on below t, of which the cards in S are dirty: its map is in block m, the map's words in block g. -/
structure Ct (w : World) (p m g f t : Nat) (S : Nat → Bool) : Prop where
  hd : Blk w p 97 [ptr m, .int .i64 f, .int .i64 t]
  ms : Ms w m g (nc f t) S
  ft : f ≤ t
  t4 : t ≤ 4096
  pg : p ≠ g
  mg : m ≠ g
section
variable {w w' : World} {p m g f t : Nat} {S T : Nat → Bool} {C : Nat → Prop}
theorem Ct.chg (h : Ct w p m g f t S) (c : Chg C w w') (h1 : ¬ C p) (h2 : ¬ C m) (h3 : ¬ C g) : Ct w' p m g f t S := ⟨h.hd.chg c h1, h.ms.chg c h2 h3, h.ft, h.t4, h.pg, h.mg⟩
theorem Ct.grow (h : Ct w p m g f t S) (c : Grow w w') : Ct w' p m g f t S := h.chg c id id id
theorem Ct.set (h : Ct w p m g f t S) (hm : Ms w' m g (nc f t) T) (c : Chg (· = g) w w') : Ct w' p m g f t T := ⟨h.hd.chg c h.pg, hm, h.ft, h.t4, h.pg, h.mg⟩
theorem Ct.cv (h : Ct w p m g f t S) : Cv w (ptr p) (some ⟨m, 0, none⟩) f t := .inr ⟨p, rfl, h.hd⟩
theorem Ct.at_ (h : Ct w p m g f t S) (e : T = S) : Ct w p m g f t T := e ▸ h
theorem Ct.glt (h : Ct w p m g f t S) : g < w.heap.size := h.ms.glt
theorem Ct.mlt (h : Ct w p m g f t S) : m < w.heap.size := h.ms.plt
theorem Ct.plt (h : Ct w p m g f t S) : p < w.heap.size := h.hd.lt
theorem Ct.n4 (h : Ct w p m g f t S) : nc f t ≤ 4096 := h.ms.most
theorem Ct.tail (h : Ct w p m g f t S) {i : Nat} (hi : S i = true) : i < nc f t := h.ms.tail i hi

/-- The card of an address set, if it has one. -/
def tset (S : Nat → Bool) (f t : Nat) (a : Int) : Nat → Bool := if inn f t a then upd S (cd f a) true else S
theorem tset_eq (S : Nat → Bool) (f t : Nat) (a : Int) : setI S (nc f t) (num f t a) true = tset S f t a := by
  unfold setI tset
  rw [ex_num]
  cases h : inn f t a with
  | true => rw [if_pos rfl, if_pos rfl, num_in h, Int.toNat_natCast]
  | false => rfl
/-- Is it new; is it dirty? -/
def isnew (S : Nat → Bool) (f t : Nat) (a : Int) : Bool := inn f t a && !S (cd f a)
def isd (S : Nat → Bool) (f t : Nat) (a : Int) : Bool := inn f t a && S (cd f a)
theorem isnew_eq (S : Nat → Bool) (f t : Nat) (a : Int) : (exB (nc f t) (num f t a) && !S (num f t a).toNat) = isnew S f t a := by
  unfold isnew
  rw [ex_num]
  cases h : inn f t a with
  | true => rw [num_in h, Int.toNat_natCast]
  | false => rfl
theorem isd_eq (S : Nat → Bool) (f t : Nat) (a : Int) : hasI S (nc f t) (num f t a) = isd S f t a := by
  unfold isd hasI
  rw [ex_num]
  cases h : inn f t a with
  | true => rw [num_in h, Int.toNat_natCast]
  | false => rfl

theorem tb_touch (h : Ct w p m g f t S) (a : Int) {c : Bool} (hc : isnew S f t a = c) (hT : tset S f t a = T) : Calls Tryz.prog 9 #[ptr p, .int .i64 a] w fun e w' => e = .returned (.bool c) ∧ Ct w' p m g f t T ∧ Chg (· = g) w w' := by
  subst hc hT
  refine (touch_by (C := (· = g)) (R := fun W => Ms W m g (nc f t) (tset S f t a)) h.cv h.t4 (fun i hi => hi ▸ h.glt) fun W c => ?_).mono fun e w' ⟨he, hr, hc⟩ => ⟨he, h.set hr hc, hc⟩
  exact set_is (h.ms.grow c) (isnew_eq S f t a) (tset_eq S f t a)
theorem tb_dirty (h : Ct w p m g f t S) (a : Int) {c : Bool} (hc : isd S f t a = c) : Calls Tryz.prog 75 #[ptr p, .int .i64 a] w fun e w' => e = .returned (.bool c) ∧ Grow w w' := by
  subst hc
  exact dirty_by h.cv h.t4 fun W c => has_is (h.ms.grow c) (isd_eq S f t a)
theorem tb_wipe (h : Ct w p m g f t S) : Calls Tryz.prog 24 #[ptr p] w fun e w' => e = .returned (.tuple #[]) ∧ Ct w' p m g f t no ∧ Chg (· = g) w w' :=
  (wipe_by (C := (· = g)) (R := fun W => Ms W m g (nc f t) no) h.cv fun W c => ms_wipe (h.ms.grow c)).mono fun e w' ⟨he, hr, hc⟩ => ⟨he, h.set hr hc, hc⟩
theorem tb_all (h : Ct w p m g f t S) (ht : Tab w) {l : List Int} (hl : cds S f (nc f t) = l) : Calls Tryz.prog 15 #[ptr p] w fun e w' => ∃ v, e = .returned v ∧ w'.ownsRow w.heap.size 3 1 v l.length (ints l) ∧ Grow w w' := by
  subst hl
  have h4 := h.t4
  have hft := h.ft
  exact list_by h.cv (by omega) h.n4 fun W i c => next_is (h.ms.grow c) (ht.chg c id) rfl
end

/-- Where a table ends. -/
def tob (a b : Int) : Nat := max (clamp b) (clamp a)
set_option maxHeartbeats 1000000 in
theorem tb_new (a b : Int) (w : World) {F T : Nat} (hF : clamp a = F) (hT : tob a b = T) : Calls Tryz.prog 11 #[.int .i64 a, .int .i64 b] w fun e w' => ∃ p m g, e = .returned (ptr p) ∧ Ct w' p m g F T no ∧ w.heap.size ≤ p ∧ w.heap.size ≤ m ∧ w.heap.size ≤ g ∧ Grow w w' := by
  obtain ⟨B, hB⟩ : ∃ B, clamp b = B := ⟨_, rfl⟩
  have hF4 : F ≤ 4096 := by rw [← hF]; unfold clamp; omega
  have hB4 : B ≤ 4096 := by rw [← hB]; unfold clamp; omega
  have hTT : T = max B F := by rw [← hT, ← hB, ← hF]; rfl
  have hmx : ∀ ts ty W, (Builtin.max_ ts ty #[.int .i64 B, .int .i64 F]).run Tryz.prog W = .ok (.int .i64 T) W := fun ts ty W => by
    rw [run_max_int2]; congr 2; rw [hTT]; split <;> omega
  obtain ⟨d, hd⟩ : ∃ d, T - F = d := ⟨_, rfl⟩
  obtain ⟨n, hn⟩ : ∃ n, nc F T = n := ⟨_, rfl⟩
  have hn4 : n ≤ 4096 := by rw [← hn]; unfold nc; omega
  have w1 : IntKind.i64.wrap ((T : Int) - (F : Int)) = (d : Int) := by rw [wrap_i64_id _ (by omega)]; omega
  have w2 : IntKind.i64.wrap ((d : Int) + 16) = (d : Int) + 16 := wrap_i64_id _ (by omega)
  have w3 : IntKind.i64.wrap ((d : Int) + 16 - 1) = ((d + 15 : Nat) : Int) := by rw [wrap_i64_id _ (by omega)]; omega
  have w4 : IntKind.i64.wrap (((d + 15 : Nat) : Int) / 16) = (n : Int) := by rw [wrap_i64_id _ (by omega), ← hn]; unfold nc; rw [hd]; omega
  have HN := hide (show clamp (n : Int) = nc F T by rw [hn]; unfold clamp; omega)
  have HC1 := hide fun W => clamp_any W a F hF
  have HC2 := hide fun W => clamp_any W b B hB
  have HFT := hide (show F ≤ T by omega)
  have HT4 := hide (show T ≤ 4096 by omega)
  clear hF hT hB hF4 hB4 hTT hd hn hn4
  generalize d + 15 = d15 at *
  go_enter Tryz.func11, Tryz.ntmps11
  go_wp2_with fail
  refine (HC1.out _).mono ?_
  rintro e w' ⟨rfl, rfl⟩
  go_wp2_with fail
  refine (HC2.out _).mono ?_
  rintro e w' ⟨rfl, rfl⟩
  go_wp2_with fail
  refine (ms_new n _).mono ?_
  rintro e w5 ⟨rfl, h5, c5⟩
  have hp := h5.plt
  have hg := h5.glt
  rw [HN.out] at h5
  have hb := Blk.new w5 97 [ptr (w.heap.size + 1), .int .i64 F, .int .i64 T]
  have hm5 := h5.grow (Grow.box w5 (.cells [ptr (w.heap.size + 1), .int .i64 F, .int .i64 T].toArray 97))
  have HR := hide (show ∃ p m g, Ending.returned (ptr w5.heap.size) = .returned (ptr p) ∧ Ct (w5.alloc (.cells [ptr (w.heap.size + 1), .int .i64 F, .int .i64 T].toArray 97)) p m g F T no ∧ w.heap.size ≤ p ∧ w.heap.size ≤ m ∧ w.heap.size ≤ g ∧ Grow w (w5.alloc (.cells [ptr (w.heap.size + 1), .int .i64 F, .int .i64 T].toArray 97)) from
    ⟨_, _, _, rfl, ⟨hb, hm5, HFT.out, HT4.out, by omega, by omega⟩, c5.size, by omega, by omega, c5.alloc _⟩)
  clear h5 hb hm5 c5 hp hg
  go_wp2
  go_ret
  exact HR.out

section
variable (w : World)
theorem cv0 : Cv w (.pointer none) none 0 0 := .inl ⟨rfl, rfl, rfl, rfl⟩
theorem mv0 : Mv w (.pointer none) none 0 [] := ⟨⟨by omega, rfl, fun k => by simp, fun i hi => by simp [hs] at hi⟩, .inl ⟨rfl, rfl, rfl, rfl⟩, fun k hk => by simp at hk⟩
theorem num0 (a : Int) : num 0 0 a = -1 := num_out (by simp only [inn, decide_eq_false_iff_not]; omega)
theorem ex0 (i : Int) : exB 0 i = false := exB_out (by omega)
theorem nil_touch (a : Int) : Calls Tryz.prog 9 #[.pointer none, .int .i64 a] w fun e w' => e = .returned (.bool false) ∧ Grow w w' :=
  (touch_by (C := fun _ => False) (R := fun _ => True) (cv0 w) (by omega) (fun _ h => h.elim) fun W c => (set_no W _ _ 0 [] _ (mv0 W) (ex0 _)).mono fun e w' ⟨he, hw⟩ => ⟨he, trivial, hw ▸ Chg.refl _ _⟩).mono fun e w' ⟨he, _, hc⟩ => ⟨he, hc⟩
theorem nil_dirty (a : Int) : Calls Tryz.prog 75 #[.pointer none, .int .i64 a] w fun e w' => e = .returned (.bool false) ∧ Grow w w' :=
  dirty_by (cv0 w) (by omega) fun W c => has_no _ _ 0 [] W _ (mv0 W) (ex0 _)
theorem nil_wipe : Calls Tryz.prog 24 #[.pointer none] w fun e w' => e = .returned (.tuple #[]) ∧ Grow w w' :=
  (wipe_by (C := fun _ => False) (R := fun _ => True) (cv0 w) fun W c => (wipe_none W _ none 0 (mv0 W)).mono fun e w' ⟨he, hw⟩ => ⟨he, trivial, hw ▸ Chg.refl _ _⟩).mono fun e w' ⟨he, _, hc⟩ => ⟨he, hc⟩
theorem nil_next (W : World) (i : Int) : Calls Tryz.prog 48 #[.pointer none, .int .i64 i] W fun e w' => e = .returned (.int .i64 (-1)) ∧ Grow W w' := by
  have := next_out _ _ 0 [] W i (mv0 W) (by omega)
  rwa [nx_none fun k h1 h2 => by omega] at this
theorem nil_all : Calls Tryz.prog 15 #[.pointer none] w fun e w' => ∃ v, e = .returned v ∧ w'.ownsRow w.heap.size 3 1 v 0 [] ∧ Grow w w' :=
  list_by (n := 0) (S := no) (cv0 w) (by omega) (by omega) fun W i c => by rw [nx_none fun k h1 h2 => by omega]; exact nil_next W i
end
end Go.Proofs.YtogfjclmohpjkaaGreatDoor.L7
/- 'awake' of the laws of package card answers true. Conditions: the table of TrailingZeros64 is as the program's text lays it. -/
namespace Go.Proofs.YtogfjclmohpjkaaGreatDoor.L7
open Go.ChangeShapes Go.WideShapes Go.ChangeAt Go.RowKit
open Go.Proofs.YtogfjclmohpjkaaGreatDoor.L3
set_option linter.unusedVariables false
set_option maxRecDepth 100000

end Go.Proofs.YtogfjclmohpjkaaGreatDoor.L7
/- Two tables of the same addresses, that share no memory. Conditions: as in the texts before. -/
namespace Go.Proofs.YtogfjclmohpjkaaGreatDoor.L7
open Go.ChangeShapes Go.WideShapes Go.ChangeAt Go.RowKit
open Go.Proofs.YtogfjclmohpjkaaGreatDoor.L3
set_option linter.unusedVariables false
set_option maxRecDepth 100000

section
variable {w0 w w' : World} {p m g q k h F T : Nat} {S U V : Nat → Bool}
end

theorem isnew_no (F T : Nat) (x : Int) : isnew no F T x = inn F T x := by unfold isnew; simp
theorem tset_on {S : Nat → Bool} {F T : Nat} {x : Int} (h : inn F T x = true) : tset S F T x = upd S (cd F x) true := by unfold tset; rw [h]; rfl
theorem tset_off {S : Nat → Bool} {F T : Nat} {x : Int} (h : inn F T x = false) : tset S F T x = S := by unfold tset; rw [h]; rfl
theorem isd_off {S : Nat → Bool} {F T : Nat} {x : Int} (h : inn F T x = false) : isd S F T x = false := by unfold isd; rw [h]; rfl
theorem isnew_off {S : Nat → Bool} {F T : Nat} {x : Int} (h : inn F T x = false) : isnew S F T x = false := by unfold isnew; rw [h]; rfl
theorem isd_on {S : Nat → Bool} {F T : Nat} {x : Int} (h : inn F T x = true) : isd S F T x = S (cd F x) := by unfold isd; rw [h]; rfl
theorem isnew_on {S : Nat → Bool} {F T : Nat} {x : Int} (h : inn F T x = true) : isnew S F T x = !S (cd F x) := by unfold isnew; rw [h]; rfl
theorem cd_near {F T : Nat} {x y : Int} (hx : inn F T x = true) (hy : inn F T y = true) (h : cd F x = cd F y) : x - y < 16 ∧ y - x < 16 := by
  simp only [inn, decide_eq_true_eq] at hx hy
  unfold cd at h
  omega
/-- One card alone is dirty. -/
theorem cds_one {f n c : Nat} (h : c < n) : cds (upd no c true) f n = [((f + 16 * c : Nat) : Int)] := by
  rw [cds_upto (j := c + 1) h fun i h1 h2 => upd_ne (by omega), cds_snoc (j := 0) (Nat.zero_le _) (fun i h1 h2 => upd_ne (by omega)) (upd_at _ _ _)]
  rfl
end Go.Proofs.YtogfjclmohpjkaaGreatDoor.L7
/- The dirty cards by their order, and sets of addresses that were touched: pure facts, no program. Conditions: none. -/
namespace Go.Proofs.YtogfjclmohpjkaaGreatDoor.L7
open Go.ChangeShapes Go.WideShapes Go.ChangeAt Go.RowKit
open Go.Proofs.YtogfjclmohpjkaaGreatDoor.L3
set_option linter.unusedVariables false
set_option maxRecDepth 100000

section
variable {S : Nat → Bool} {n f : Nat}
theorem cnt_lt {c d : Nat} (h : c < d) (hs : S c = true) : cnt S c < cnt S d := by
  have h1 := cnt_mono S (show c + 1 ≤ d from h)
  have h2 := cnt_s S c
  rw [hs] at h2
  have : (true : Bool).toNat = 1 := rfl
  omega
theorem cnt_inj {c d : Nat} (hc : S c = true) (hd : S d = true) (h : cnt S c = cnt S d) : c = d := by
  rcases Nat.lt_trichotomy c d with h1 | h1 | h1
  · have := cnt_lt h1 hc; omega
  · exact h1
  · have := cnt_lt h1 hd; omega
/-- Each number below the count is a card's. -/
theorem nth (S : Nat → Bool) : ∀ n j, j < cnt S n → ∃ c, c < n ∧ S c = true ∧ cnt S c = j := by
  intro n
  induction n with
  | zero => intro j h; exact absurd h (Nat.not_lt_zero _)
  | succ n ih =>
    intro j h
    have h2 := cnt_s S n
    by_cases e : j < cnt S n
    · obtain ⟨c, h3, h4, h5⟩ := ih j e
      exact ⟨c, by omega, h4, h5⟩
    · cases hs : S n with
      | true =>
        rw [hs] at h2
        have : (true : Bool).toNat = 1 := rfl
        exact ⟨n, by omega, hs, by omega⟩
      | false =>
        rw [hs] at h2
        have : (false : Bool).toNat = 0 := rfl
        omega
theorem cds_get (n : Nat) {c : Nat} (hc : c < n) (hs : S c = true) : (cds S f n).getD (cnt S c) 0 = ((f + 16 * c : Nat) : Int) := by
  induction n with
  | zero => omega
  | succ n ih =>
    by_cases e : c = n
    · subst e
      rw [cds_snoc (Nat.le_refl c) (fun i a b => by omega) hs, List.getD_eq_getElem?_getD, ← cds_len S f c, List.getElem?_append_right (Nat.le_refl _)]
      simp
    · have hl := cnt_lt (show c < n by omega) hs
      rw [cds, List.getD_eq_getElem?_getD, List.getElem?_append_left (by rw [cds_len]; exact hl), ← List.getD_eq_getElem?_getD]
      exact ih (by omega)

/-- The first j dirty cards; all but these. -/
def pre (S : Nat → Bool) (j : Nat) : Nat → Bool := fun c => S c && decide (cnt S c < j)
def suf (S : Nat → Bool) (j : Nat) : Nat → Bool := fun c => S c && decide (j ≤ cnt S c)
theorem pre_zero (S : Nat → Bool) : pre S 0 = no := by funext c; simp [pre]
theorem suf_zero (S : Nat → Bool) : suf S 0 = S := by funext c; simp [suf]
theorem pre_all (ht : ∀ c, S c = true → c < n) : pre S (cnt S n) = S := by
  funext c
  unfold pre
  cases h : S c with
  | false => rfl
  | true => rw [decide_eq_true (cnt_lt (ht c h) h)]; rfl
theorem pre_step {c j : Nat} (hs : S c = true) (hj : cnt S c = j) : upd (pre S j) c true = pre S (j + 1) := by
  funext i
  unfold upd
  by_cases e : i = c
  · rw [if_pos e, e]
    unfold pre
    rw [hs, hj, decide_eq_true (Nat.lt_succ_self j)]
    rfl
  · rw [if_neg e]
    unfold pre
    cases hi : S i with
    | false => rfl
    | true =>
      have : cnt S i ≠ j := fun h => e (cnt_inj hi hs (by omega))
      rw [show (decide (cnt S i < j)) = decide (cnt S i < j + 1) from decide_eq_decide.2 (by omega)]
theorem pre_at {c j : Nat} (hj : cnt S c = j) : pre S j c = false := by
  unfold pre
  rw [hj, decide_eq_false (Nat.lt_irrefl j), Bool.and_false]
theorem suf_step {c j : Nat} (hs : S c = true) (hj : cnt S c = j) : upd (suf S j) c false = suf S (j + 1) := by
  funext i
  unfold upd
  by_cases e : i = c
  · rw [if_pos e, e]
    unfold suf
    rw [hj, decide_eq_false (Nat.not_succ_le_self j), Bool.and_false]
  · rw [if_neg e]
    unfold suf
    cases hi : S i with
    | false => rfl
    | true =>
      have : cnt S i ≠ j := fun h => e (cnt_inj hi hs (by omega))
      rw [show (decide (j ≤ cnt S i)) = decide (j + 1 ≤ cnt S i) from decide_eq_decide.2 (by omega)]
theorem suf_at {c j : Nat} (hs : S c = true) (hj : cnt S c = j) : suf S j c = true := by
  unfold suf
  rw [hs, hj, decide_eq_true (Nat.le_refl j)]
  rfl
theorem suf_below {c j i : Nat} (hs : S c = true) (hj : cnt S c = j) (hi : i < c) : suf S j i = false := by
  unfold suf
  cases h : S i with
  | false => rfl
  | true => rw [decide_eq_false (by have := cnt_lt hi h; omega)]; rfl
theorem suf_all (ht : ∀ c, S c = true → c < n) : suf S (cnt S n) = no := by
  funext c
  unfold suf
  cases h : S c with
  | false => rfl
  | true => rw [decide_eq_false (by have := cnt_lt (ht c h) h; omega)]; rfl

/-- A dirty card's first address is an address, of that card. -/
theorem inn_first {T c : Nat} (hc : c < nc f T) : inn f T ((f + 16 * c : Nat) : Int) = true ∧ cd f ((f + 16 * c : Nat) : Int) = c := by
  unfold nc at hc
  constructor
  · simp only [inn, decide_eq_true_eq]; omega
  · unfold cd; omega

/-- What is dirty behind the first k addresses of a row. -/
def tos (f T : Nat) (z : Nat → Int) : Nat → Nat → Bool
  | 0 => no
  | k + 1 => tset (tos f T z k) f T (z k)
theorem tos_iff {T : Nat} {z : Nat → Int} {k i : Nat} : tos f T z k i = true ↔ ∃ j, j < k ∧ inn f T (z j) = true ∧ cd f (z j) = i := by
  induction k with
  | zero => simp [tos]
  | succ k ih =>
    show tset (tos f T z k) f T (z k) i = true ↔ _
    unfold tset
    cases hi : inn f T (z k) with
    | false =>
      rw [if_neg (by simp), ih]
      constructor
      · rintro ⟨j, h1, h2, h3⟩; exact ⟨j, by omega, h2, h3⟩
      · rintro ⟨j, h1, h2, h3⟩
        by_cases e : j = k
        · subst e; rw [hi] at h2; cases h2
        · exact ⟨j, by omega, h2, h3⟩
    | true =>
      rw [if_pos rfl]
      unfold upd
      by_cases e : i = cd f (z k)
      · rw [if_pos e]
        exact ⟨fun _ => ⟨k, by omega, hi, e.symm⟩, fun _ => rfl⟩
      · rw [if_neg e, ih]
        constructor
        · rintro ⟨j, h1, h2, h3⟩; exact ⟨j, by omega, h2, h3⟩
        · rintro ⟨j, h1, h2, h3⟩
          by_cases e2 : j = k
          · subst e2; exact absurd h3.symm e
          · exact ⟨j, by omega, h2, h3⟩
theorem tos_back {T : Nat} (z : Nat → Int) (k : Nat) : tos f T (fun j => z (k - 1 - j)) k = tos f T z k := by
  funext i
  rw [Bool.eq_iff_iff, tos_iff, tos_iff]
  constructor
  · rintro ⟨j, h1, h2, h3⟩; exact ⟨k - 1 - j, by omega, h2, h3⟩
  · rintro ⟨j, h1, h2, h3⟩
    have e : k - 1 - (k - 1 - j) = j := by omega
    exact ⟨k - 1 - j, by omega, by rw [e]; exact h2, by rw [e]; exact h3⟩
theorem tos_tail {T : Nat} {z : Nat → Int} {k i : Nat} (h : tos f T z k i = true) : i < nc f T := by
  obtain ⟨j, h1, h2, rfl⟩ := tos_iff.1 h
  exact nc_lt h2
theorem tset_cnt (S : Nat → Bool) (f T : Nat) (x : Int) : cnt (tset S f T x) (nc f T) = cnt S (nc f T) + if isnew S f T x = true then 1 else 0 := by
  rw [← tset_eq, setI_cnt, isnew_eq]
end
theorem own_rd {w : World} {base : Nat} {a : Option Addr} {n c : Nat} {xs : List Int} (h : w.ownsRow base 3 1 (.slice a n c) n (ints xs)) : L1.Rd w a n xs := by
  have hl : xs.length = n := by have := h.1; rw [ints_length] at this; omega
  refine ⟨hl, fun hn => ?_⟩
  obtain ⟨g, cap, e, _, _, _, _, hc⟩ := own_ints h hn
  injection e with e1 e2 e3
  subst e1
  exact ⟨_, rfl, fun i hi => by rw [addr_add, Nat.zero_add]; exact hc i hi⟩
end Go.Proofs.YtogfjclmohpjkaaGreatDoor.L7
/- What stands while all dirty cards are taken: the table, the lists that were made, and the list of bools. Conditions: as in the texts before. -/
namespace Go.Proofs.YtogfjclmohpjkaaGreatDoor.L7
open Go.ChangeShapes Go.WideShapes Go.ChangeAt Go.RowKit
open Go.Proofs.YtogfjclmohpjkaaGreatDoor.L3
set_option linter.unusedVariables false
set_option maxRecDepth 100000

/-- A list that reads as xs, in no block of G. -/
def Ro (w : World) (a : Option Addr) (n : Nat) (xs : List Int) (G : Nat → Prop) : Prop := L1.Rd w a n xs ∧ (0 < n → ∀ x : Addr, a = some x → ¬ G x.block)
theorem Ro.chg {w w' : World} {a : Option Addr} {n : Nat} {xs : List Int} {G C : Nat → Prop} (h : Ro w a n xs G) (c : Chg C w w') (hC : ∀ i, C i → G i) : Ro w' a n xs G := by
  obtain ⟨⟨h1, h2⟩, h3⟩ := h
  refine ⟨⟨h1, fun hn => ?_⟩, h3⟩
  obtain ⟨x, rfl, hx⟩ := h2 hn
  exact ⟨x, rfl, fun i hi => c.cell (hx i hi) (by rw [add_block]; exact fun hc => h3 hn x rfl (hC _ hc))⟩
theorem Ro.of_own {w : World} {base : Nat} {a : Option Addr} {n c : Nat} {xs : List Int} {G : Nat → Prop} (h : w.ownsRow base 3 1 (.slice a n c) n (ints xs)) (hG : ∀ i, G i → i < base ∨ w.heap.size ≤ i) : Ro w a n xs G := by
  refine ⟨own_rd h, fun hn x e hg => ?_⟩
  obtain ⟨g, cap, e', h1, h2, _⟩ := own_ints h hn
  injection e' with e1 e2 e3
  rw [e] at e1
  injection e1 with e1
  subst e1
  rcases hG _ hg with h | h
  · exact absurd h1 (by show ¬ base ≤ g; exact Nat.not_le.2 h)
  · exact absurd h2 (by show ¬ g < _; exact Nat.not_lt.2 h)
theorem Ro.at_ {w : World} {a : Option Addr} {n : Nat} {xs : List Int} {G : Nat → Prop} (h : Ro w a n xs G) {i : Nat} (hi : i < n) : ∃ x : Addr, a = some x ∧ w.cell? (x.add i) = some (.int .i64 (xs.getD i 0)) := h.1.at_ hi

/-- Bools as cells. -/
def bls (bs : List Bool) : List Value := bs.map Value.bool
theorem bls_get (bs : List Bool) (i : Nat) (h : i < bs.length) : (bls bs)[i]? = some (.bool (bs.getD i false)) := by simp [bls, h]
theorem bls_set (bs : List Bool) (i : Nat) (b : Bool) : (bls bs).set i (.bool b) = bls (bs.set i b) := by simp [bls, List.map_set]
theorem Tryz.infoBool : (Tryz.prog.info? 4).map (fun i => (i.zero, i.size, i.bytes)) = some (some (.bool false), 1, 1) := by kernel_rfl
/-- What stands between two takes. -/
structure Sta (w0 w : World) (p m g F T : Nat) (U : Nat → Bool) (oa : Option Addr) (M : Nat) (xs : List Int) (va : Option Addr) (L : Nat) (l : List Int) (H : Nat) (bs : List Bool) : Prop where
  ct : Ct w p m g F T U
  ro : Ro w oa M xs (fun i => i = g ∨ i = H)
  rv : Ro w va L l (fun i => i = g ∨ i = H)
  hb : Blk w H 4 (bls bs)
  pH : p ≠ H
  mH : m ≠ H
  gH : g ≠ H
  newg : w0.heap.size ≤ g
  newH : w0.heap.size ≤ H
  cc : Grow w0 w
section
variable {w0 w w' : World} {p m g F T : Nat} {U V : Nat → Bool} {oa va : Option Addr} {M L H : Nat} {xs l : List Int} {bs : List Bool}
theorem Sta.grow (s : Sta w0 w p m g F T U oa M xs va L l H bs) (c : Grow w w') : Sta w0 w' p m g F T U oa M xs va L l H bs :=
  ⟨s.ct.grow c, s.ro.chg c fun _ h => h.elim, s.rv.chg c fun _ h => h.elim, s.hb.chg c id, s.pH, s.mH, s.gH, s.newg, s.newH, s.cc.trans c⟩
theorem Sta.set (s : Sta w0 w p m g F T U oa M xs va L l H bs) (h : Ct w' p m g F T V) (c : Chg (· = g) w w') : Sta w0 w' p m g F T V oa M xs va L l H bs :=
  ⟨h, s.ro.chg c fun _ h => .inl h, s.rv.chg c fun _ h => .inl h, s.hb.chg c s.gH.symm, s.pH, s.mH, s.gH, s.newg, s.newH, s.cc.new s.newg c⟩
theorem Sta.put (s : Sta w0 w p m g F T U oa M xs va L l H bs) (i : Nat) (b : Bool) : Sta w0 (w.setCell ⟨H, i, none⟩ (.bool b)) p m g F T U oa M xs va L l H (bs.set i b) := by
  have c : Chg (· = H) w (w.setCell ⟨H, i, none⟩ (.bool b)) := (Chg.refl _ w).set1 i _
  exact ⟨s.ct.chg c s.pH s.mH s.gH, s.ro.chg c fun _ h => .inr h, s.rv.chg c fun _ h => .inr h, by rw [← bls_set]; exact s.hb.set_ i _, s.pH, s.mH, s.gH, s.newg, s.newH, s.cc.new s.newH c⟩
end

/-- Of the first k addresses those that the table has. -/
def xsOf (F T : Nat) (z : Nat → Int) : Nat → List Int
  | 0 => []
  | k + 1 => xsOf F T z k ++ if inn F T (z k) then [z k] else []
theorem xsOf_len (F T : Nat) (z : Nat → Int) (k : Nat) : (xsOf F T z k).length ≤ k := by
  induction k with
  | zero => exact Nat.le_refl _
  | succ k ih => rw [xsOf, List.length_append]; split <;> simp <;> omega
theorem xsOf_at {F T : Nat} {z : Nat → Int} (k : Nat) : ∀ i, i < (xsOf F T z k).length → ∃ j, j < k ∧ inn F T (z j) = true ∧ (xsOf F T z k).getD i 0 = z j := by
  induction k with
  | zero => intro i h; exact absurd h (Nat.not_lt_zero _)
  | succ k ih =>
    intro i h
    by_cases e : i < (xsOf F T z k).length
    · obtain ⟨j, h1, h2, h3⟩ := ih i e
      exact ⟨j, by omega, h2, by rw [xsOf, List.getD_eq_getElem?_getD, List.getElem?_append_left e, ← List.getD_eq_getElem?_getD]; exact h3⟩
    · rw [xsOf, List.length_append] at h
      cases hi : inn F T (z k) with
      | false => rw [hi] at h; simp at h; omega
      | true =>
        rw [hi] at h
        simp at h
        refine ⟨k, by omega, hi, ?_⟩
        rw [xsOf, hi, List.getD_eq_getElem?_getD, List.getElem?_append_right (by omega), show i - (xsOf F T z k).length = 0 by omega]
        rfl
theorem xsOf_in {F T : Nat} {z : Nat → Int} {k i : Nat} (h : i < (xsOf F T z k).length) : inn F T ((xsOf F T z k).getD i 0) = true ∧ tos F T z k (cd F ((xsOf F T z k).getD i 0)) = true := by
  obtain ⟨j, h1, h2, h3⟩ := xsOf_at k i h
  rw [h3]
  exact ⟨h2, tos_iff.2 ⟨j, h1, h2, rfl⟩⟩
/-- Is an address in the stretch of a card? -/
theorem in_card {F T c : Nat} {x : Int} (hx : inn F T x = true) : (((F + 16 * c : Nat) : Int) ≤ x ∧ x < (min (F + 16 * c + 16) T : Nat)) ↔ cd F x = c := by
  simp only [inn, decide_eq_true_eq] at hx
  unfold cd
  constructor
  · rintro ⟨h1, h2⟩; omega
  · intro h; constructor <;> omega
theorem law_inn {f t z : Int} (h0 : 0 ≤ f) (h1 : 0 ≤ t) : inn (clamp f) (tob f t) z = (decide (f ≤ z) && decide (z < min t 4096)) := by
  rw [← Bool.decide_and]
  unfold inn tob clamp
  exact decide_eq_decide.2 (by constructor <;> rintro ⟨a, b⟩ <;> constructor <;> omega)
/-- What the take behind j takes tells. -/
def Nx (S : Nat → Bool) (F T L j : Nat) (x y : Nat) (ok : Bool) : Prop :=
  (j < L ∧ ok = true ∧ ∃ c, c < nc F T ∧ S c = true ∧ cnt S c = j ∧ x = F + 16 * c ∧ y = min (x + 16) T) ∨ (j = L ∧ ok = false ∧ x = 0 ∧ y = 0)
theorem suf_gone {S : Nat → Bool} {n j : Nat} (ht : ∀ c, S c = true → c < n) (hj : cnt S n ≤ j) : suf S j = no := by
  funext c
  unfold suf
  cases h : S c with
  | false => rfl
  | true => rw [decide_eq_false (by have := cnt_lt (ht c h) h; omega)]; rfl
theorem cds_no (f n : Nat) : cds no f n = [] := cds_upto (j := 0) (Nat.zero_le _) fun _ _ _ => rfl
end Go.Proofs.YtogfjclmohpjkaaGreatDoor.L7
