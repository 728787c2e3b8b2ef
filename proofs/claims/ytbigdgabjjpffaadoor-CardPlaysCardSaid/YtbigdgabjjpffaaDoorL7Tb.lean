/- Tables of cards in the words of the set of dirty cards: the calls of package card, of a table and of nil; that 'awake' answers true. Conditions: the table of TrailingZeros64 is as the program's text lays it. -/
import Derived.Test.YtbigdgabjjpffaaDoorL7All
namespace Go.Proofs.YtbigdgabjjpffaaDoor.L7
open Go.ChangeShapes Go.WideShapes Go.ChangeAt Go.RowKit
open Go.Proofs.YtbigdgabjjpffaaDoor.L3
set_option linter.unusedVariables false

/-- A table in block p, from f on below t, of which the cards in S are dirty: its map is in block m, the map's words in block g. -/
structure Ct (w : World) (p m g f t : Nat) (S : Nat → Bool) : Prop where
  hd : Blk w p 51 [ptr m, .int .i64 f, .int .i64 t]
  ms : Ms w m g (nc f t) S
  ft : f ≤ t
  t4 : t ≤ 4096
  pg : p ≠ g
  mg : m ≠ g
section
variable {w w' : World} {p m g f t : Nat} {S T : Nat → Bool} {C : Nat → Prop}
theorem Ct.chg (h : Ct w p m g f t S) (c : Chg C w w') (h1 : ¬ C p) (h2 : ¬ C m) (h3 : ¬ C g) : Ct w' p m g f t S := ⟨h.hd.chg c h1, h.ms.chg c h2 h3, h.ft, h.t4, h.pg, h.mg⟩
theorem Ct.grow (h : Ct w p m g f t S) (c : Grow w w') : Ct w' p m g f t S := h.chg c id id id
theorem Ct.set (h : Ct w p m g f t S) (hm : Ms w' m g (nc f t) T) (c : Chg (· = g) w w') : Ct w' p m g f t T := ⟨h.hd.chg c h.pg, hm, h.ft, h.t4, h.pg, h.mg⟩
theorem Ct.cv (h : Ct w p m g f t S) : Cv w (ptr p) (some ⟨m, 0, none⟩) f t := .inr ⟨p, rfl, h.hd⟩
theorem Ct.at_ (h : Ct w p m g f t S) (e : T = S) : Ct w p m g f t T := e ▸ h
theorem Ct.glt (h : Ct w p m g f t S) : g < w.heap.size := h.ms.glt
theorem Ct.mlt (h : Ct w p m g f t S) : m < w.heap.size := h.ms.plt
theorem Ct.plt (h : Ct w p m g f t S) : p < w.heap.size := h.hd.lt
theorem Ct.n4 (h : Ct w p m g f t S) : nc f t ≤ 4096 := h.ms.most
theorem Ct.tail (h : Ct w p m g f t S) {i : Nat} (hi : S i = true) : i < nc f t := h.ms.tail i hi

/-- The card of an address set, if it has one. -/
def tset (S : Nat → Bool) (f t : Nat) (a : Int) : Nat → Bool := if inn f t a then upd S (cd f a) true else S
theorem tset_eq (S : Nat → Bool) (f t : Nat) (a : Int) : setI S (nc f t) (num f t a) true = tset S f t a := by
  unfold setI tset
  rw [ex_num]
  cases h : inn f t a with
  | true => rw [if_pos rfl, if_pos rfl, num_in h, Int.toNat_natCast]
  | false => rfl
/-- Is it new; is it dirty? -/
def isnew (S : Nat → Bool) (f t : Nat) (a : Int) : Bool := inn f t a && !S (cd f a)
def isd (S : Nat → Bool) (f t : Nat) (a : Int) : Bool := inn f t a && S (cd f a)
theorem isnew_eq (S : Nat → Bool) (f t : Nat) (a : Int) : (exB (nc f t) (num f t a) && !S (num f t a).toNat) = isnew S f t a := by
  unfold isnew
  rw [ex_num]
  cases h : inn f t a with
  | true => rw [num_in h, Int.toNat_natCast]
  | false => rfl
theorem isd_eq (S : Nat → Bool) (f t : Nat) (a : Int) : hasI S (nc f t) (num f t a) = isd S f t a := by
  unfold isd hasI
  rw [ex_num]
  cases h : inn f t a with
  | true => rw [num_in h, Int.toNat_natCast]
  | false => rfl

theorem tb_touch (h : Ct w p m g f t S) (a : Int) {c : Bool} (hc : isnew S f t a = c) (hT : tset S f t a = T) : Calls Tryd.prog 12 #[ptr p, .int .i64 a] w fun e w' => e = .returned (.bool c) ∧ Ct w' p m g f t T ∧ Chg (· = g) w w' := by
  subst hc hT
  refine (touch_by (C := (· = g)) (R := fun W => Ms W m g (nc f t) (tset S f t a)) h.cv h.t4 (fun i hi => hi ▸ h.glt) fun W c => ?_).mono fun e w' ⟨he, hr, hc⟩ => ⟨he, h.set hr hc, hc⟩
  exact set_is (h.ms.grow c) (isnew_eq S f t a) (tset_eq S f t a)
theorem tb_dirty (h : Ct w p m g f t S) (a : Int) {c : Bool} (hc : isd S f t a = c) : Calls Tryd.prog 14 #[ptr p, .int .i64 a] w fun e w' => e = .returned (.bool c) ∧ Grow w w' := by
  subst hc
  exact dirty_by h.cv h.t4 fun W c => has_is (h.ms.grow c) (isd_eq S f t a)
theorem tb_wipe (h : Ct w p m g f t S) : Calls Tryd.prog 18 #[ptr p] w fun e w' => e = .returned (.tuple #[]) ∧ Ct w' p m g f t no ∧ Chg (· = g) w w' :=
  (wipe_by (C := (· = g)) (R := fun W => Ms W m g (nc f t) no) h.cv fun W c => ms_wipe (h.ms.grow c)).mono fun e w' ⟨he, hr, hc⟩ => ⟨he, h.set hr hc, hc⟩
theorem tb_take0 (h : Ct w p m g f t S) (ht : Tab w) (hn : ∀ k, k < nc f t → S k = false) : Calls Tryd.prog 16 #[ptr p] w fun e w' => e = .returned (.tuple #[.int .i64 0, .int .i64 0, .bool false]) ∧ Grow w w' :=
  take_none h.cv fun W c => next_is (h.ms.grow c) (ht.chg c id) (nx_none fun k _ hk => hn k hk)
theorem tb_take1 (h : Ct w p m g f t S) (ht : Tab w) {j : Nat} (hj : j < nc f t) (hs : S j = true) (hn : ∀ k, k < j → S k = false) {x y : Nat} (hx : x = f + 16 * j) (hy : y = min (x + 16) t) :
    Calls Tryd.prog 16 #[ptr p] w fun e w' => e = .returned (.tuple #[.int .i64 x, .int .i64 y, .bool true]) ∧ Ct w' p m g f t (upd S j false) ∧ Chg (· = g) w w' := by
  have hn4 := h.n4
  have h4 := h.t4
  have hft := h.ft
  refine (take_by (C := (· = g)) (R := fun W => Ms W m g (nc f t) (upd S j false)) h.cv h.t4 (fun i hi => hi ▸ h.glt) (by omega) hx (by omega) hy (fun W c => ?_) (fun W c => ?_) fun W W' hr c => hr.grow c).mono fun e w' ⟨he, hr, hc⟩ => ⟨he, h.set hr hc, hc⟩
  · exact next_is (h.ms.grow c) (ht.chg c id) (nx_some j (by simp) hj hs fun k _ hk => hn k hk)
  · exact clear_is (h.ms.grow c) (by unfold hasI; rw [exB_in hj, Int.toNat_natCast, hs]; rfl) (setI_in hj)
theorem tb_all (h : Ct w p m g f t S) (ht : Tab w) {l : List Int} (hl : cds S f (nc f t) = l) : Calls Tryd.prog 20 #[ptr p] w fun e w' => ∃ v, e = .returned v ∧ w'.ownsRow w.heap.size 3 1 v l.length (ints l) ∧ Grow w w' := by
  subst hl
  have h4 := h.t4
  have hft := h.ft
  exact list_by h.cv (by omega) h.n4 fun W i c => next_is (h.ms.grow c) (ht.chg c id) rfl
end

/-- Where a table ends. -/
def tob (a b : Int) : Nat := max (clamp b) (clamp a)
set_option maxHeartbeats 1000000 in
theorem tb_new (a b : Int) (w : World) {F T : Nat} (hF : clamp a = F) (hT : tob a b = T) : Calls Tryd.prog 10 #[.int .i64 a, .int .i64 b] w fun e w' => ∃ p m g, e = .returned (ptr p) ∧ Ct w' p m g F T no ∧ w.heap.size ≤ p ∧ w.heap.size ≤ m ∧ w.heap.size ≤ g ∧ Grow w w' := by
  obtain ⟨B, hB⟩ : ∃ B, clamp b = B := ⟨_, rfl⟩
  have hF4 : F ≤ 4096 := by rw [← hF]; unfold clamp; omega
  have hB4 : B ≤ 4096 := by rw [← hB]; unfold clamp; omega
  have hTT : T = max B F := by rw [← hT, ← hB, ← hF]; rfl
  have hmx : ∀ ts ty W, (Builtin.max_ ts ty #[.int .i64 B, .int .i64 F]).run Tryd.prog W = .ok (.int .i64 T) W := fun ts ty W => by
    rw [run_max_int2]; congr 2; rw [hTT]; split <;> omega
  obtain ⟨d, hd⟩ : ∃ d, T - F = d := ⟨_, rfl⟩
  obtain ⟨n, hn⟩ : ∃ n, nc F T = n := ⟨_, rfl⟩
  have hn4 : n ≤ 4096 := by rw [← hn]; unfold nc; omega
  have w1 : IntKind.i64.wrap ((T : Int) - (F : Int)) = (d : Int) := by rw [wrap_i64_id _ (by omega)]; omega
  have w2 : IntKind.i64.wrap ((d : Int) + 16) = (d : Int) + 16 := wrap_i64_id _ (by omega)
  have w3 : IntKind.i64.wrap ((d : Int) + 16 - 1) = ((d + 15 : Nat) : Int) := by rw [wrap_i64_id _ (by omega)]; omega
  have w4 : IntKind.i64.wrap (((d + 15 : Nat) : Int) / 16) = (n : Int) := by rw [wrap_i64_id _ (by omega), ← hn]; unfold nc; rw [hd]; omega
  have HN := hide (show clamp (n : Int) = nc F T by rw [hn]; unfold clamp; omega)
  have HC1 := hide fun W => clamp_any W a F hF
  have HC2 := hide fun W => clamp_any W b B hB
  have HFT := hide (show F ≤ T by omega)
  have HT4 := hide (show T ≤ 4096 by omega)
  clear hF hT hB hF4 hB4 hTT hd hn hn4
  generalize d + 15 = d15 at *
  go_enter Tryd.func10, Tryd.ntmps10
  go_wp2_with fail
  refine (HC1.out _).mono ?_
  rintro e w' ⟨rfl, rfl⟩
  go_wp2_with fail
  refine (HC2.out _).mono ?_
  rintro e w' ⟨rfl, rfl⟩
  go_wp2_with fail
  refine (ms_new n _).mono ?_
  rintro e w5 ⟨rfl, h5, c5⟩
  have hp := h5.plt
  have hg := h5.glt
  rw [HN.out] at h5
  have hb := Blk.new w5 51 [ptr (w.heap.size + 1), .int .i64 F, .int .i64 T]
  have hm5 := h5.grow (Grow.box w5 (.cells [ptr (w.heap.size + 1), .int .i64 F, .int .i64 T].toArray 51))
  have HR := hide (show ∃ p m g, Ending.returned (ptr w5.heap.size) = .returned (ptr p) ∧ Ct (w5.alloc (.cells [ptr (w.heap.size + 1), .int .i64 F, .int .i64 T].toArray 51)) p m g F T no ∧ w.heap.size ≤ p ∧ w.heap.size ≤ m ∧ w.heap.size ≤ g ∧ Grow w (w5.alloc (.cells [ptr (w.heap.size + 1), .int .i64 F, .int .i64 T].toArray 51)) from
    ⟨_, _, _, rfl, ⟨hb, hm5, HFT.out, HT4.out, by omega, by omega⟩, c5.size, by omega, by omega, c5.alloc _⟩)
  clear h5 hb hm5 c5 hp hg
  go_wp2
  go_ret
  exact HR.out

section
variable (w : World)
theorem cv0 : Cv w (.pointer none) none 0 0 := .inl ⟨rfl, rfl, rfl, rfl⟩
theorem mv0 : Mv w (.pointer none) none 0 [] := ⟨⟨by omega, rfl, fun k => by simp, fun i hi => by simp [hs] at hi⟩, .inl ⟨rfl, rfl, rfl, rfl⟩, fun k hk => by simp at hk⟩
theorem num0 (a : Int) : num 0 0 a = -1 := num_out (by simp only [inn, decide_eq_false_iff_not]; omega)
theorem ex0 (i : Int) : exB 0 i = false := exB_out (by omega)
theorem nil_touch (a : Int) : Calls Tryd.prog 12 #[.pointer none, .int .i64 a] w fun e w' => e = .returned (.bool false) ∧ Grow w w' :=
  (touch_by (C := fun _ => False) (R := fun _ => True) (cv0 w) (by omega) (fun _ h => h.elim) fun W c => (set_no W _ _ 0 [] _ (mv0 W) (ex0 _)).mono fun e w' ⟨he, hw⟩ => ⟨he, trivial, hw ▸ Chg.refl _ _⟩).mono fun e w' ⟨he, _, hc⟩ => ⟨he, hc⟩
theorem nil_dirty (a : Int) : Calls Tryd.prog 14 #[.pointer none, .int .i64 a] w fun e w' => e = .returned (.bool false) ∧ Grow w w' :=
  dirty_by (cv0 w) (by omega) fun W c => has_no _ _ 0 [] W _ (mv0 W) (ex0 _)
theorem nil_wipe : Calls Tryd.prog 18 #[.pointer none] w fun e w' => e = .returned (.tuple #[]) ∧ Grow w w' :=
  (wipe_by (C := fun _ => False) (R := fun _ => True) (cv0 w) fun W c => (wipe_none W _ none 0 (mv0 W)).mono fun e w' ⟨he, hw⟩ => ⟨he, trivial, hw ▸ Chg.refl _ _⟩).mono fun e w' ⟨he, _, hc⟩ => ⟨he, hc⟩
theorem nil_next (W : World) (i : Int) : Calls Tryd.prog 28 #[.pointer none, .int .i64 i] W fun e w' => e = .returned (.int .i64 (-1)) ∧ Grow W w' := by
  have := next_out _ _ 0 [] W i (mv0 W) (by omega)
  rwa [nx_none fun k h1 h2 => by omega] at this
theorem nil_take : Calls Tryd.prog 16 #[.pointer none] w fun e w' => e = .returned (.tuple #[.int .i64 0, .int .i64 0, .bool false]) ∧ Grow w w' :=
  take_none (cv0 w) fun W c => nil_next W 0
theorem nil_all : Calls Tryd.prog 20 #[.pointer none] w fun e w' => ∃ v, e = .returned v ∧ w'.ownsRow w.heap.size 3 1 v 0 [] ∧ Grow w w' :=
  list_by (n := 0) (S := no) (cv0 w) (by omega) (by omega) fun W i c => by rw [nx_none fun k h1 h2 => by omega]; exact nil_next W i
end
end Go.Proofs.YtbigdgabjjpffaaDoor.L7
