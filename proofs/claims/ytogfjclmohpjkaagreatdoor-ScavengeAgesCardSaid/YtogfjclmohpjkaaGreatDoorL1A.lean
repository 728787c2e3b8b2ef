/- What each call of package mem does to an arena whose words are known. Conditions: the numbers given fit their kinds; an arena has at most 4096 words. -/
import Derived.Test.YtogfjclmohpjkaaGreatDoorKit
import Derived.Test.YtogfjclmohpjkaaGreatDoorInts
namespace Go.Proofs.YtogfjclmohpjkaaGreatDoor.L1
open Go.ChangeShapes Go.WideShapes Go.ChangeAt Go.RowKit
set_option linter.unusedVariables false

/-- The value pv leads to the list '.slice A n n' of words: nil leads to none. -/
def Sl (w : World) (pv : Value) (A : Option Addr) (n : Nat) : Prop :=
  (pv = .pointer none ∧ A = none ∧ n = 0) ∨ ∃ b, pv = .pointer (some ⟨b, 0, none⟩) ∧ w.cell? ⟨b, 0, none⟩ = some (.slice A n n)

/-- The arena in block p has the words xs, which lie in block g. -/
def Ar (w : World) (p g : Nat) (xs : List Int) : Prop :=
  Blk w p 119 [.slice (some ⟨g, 0, none⟩) xs.length xs.length] ∧ Blk w g 3 (ints xs)

abbrev ptr (p : Nat) : Value := .pointer (some ⟨p, 0, none⟩)

theorem Ar.sl {w : World} {p g : Nat} {xs : List Int} (h : Ar w p g xs) : Sl w (ptr p) (some ⟨g, 0, none⟩) xs.length :=
  .inr ⟨p, rfl, by rw [h.1.cell]; rfl⟩
theorem Ar.ne {w : World} {p g : Nat} {xs : List Int} (h : Ar w p g xs) : p ≠ g := h.1.ne_ h.2 (by decide)
theorem Ar.chg {S : Nat → Prop} {w w' : World} {p g : Nat} {xs : List Int} (h : Ar w p g xs) (k : Chg S w w') (hp : ¬ S p) (hg : ¬ S g) : Ar w' p g xs := ⟨h.1.chg k hp, h.2.chg k hg⟩

theorem Sl.drewN {w : World} {pv : Value} {A : Option Addr} {n : Nat} (h : Sl w pv A n) (k : Nat) : Sl (w.drewN k) pv A n := h
theorem quietly {P : Program} {f : FuncId} {args : Array Value} {w : World} {n : Nat} {v : Value} (h : Calls P f args (w.drewN n) fun e w' => e = .returned v ∧ w.drewN n = w') :
    Calls P f args (w.drewN n) fun e w'' => e = .returned v ∧ ∃ m, w'' = w.drewN m := h.mono fun _ _ ⟨he, hm⟩ => ⟨he, n, hm.symm⟩
/-- Is a stretch there? -/
def exB (n : Nat) (at_ words : Int) : Bool := decide (0 ≤ at_ ∧ 0 ≤ words ∧ words ≤ n - at_)

theorem all_any (pv : Value) (A : Option Addr) (n : Nat) (w : World) (h : Sl w pv A n) :
    Calls Tryz.prog 55 #[pv] w fun e w' => e = .returned (.slice A n n) ∧ w = w' := by
  rcases h with ⟨rfl, rfl, rfl⟩ | ⟨b, rfl, hc⟩
  · go_enter Tryz.func55, Tryz.ntmps55
    go_wp2
    go_ret
    exact ⟨rfl, rfl⟩
  · go_enter Tryz.func55, Tryz.ntmps55
    go_wp2
    go_ret
    exact ⟨rfl, rfl⟩

theorem len_any (pv : Value) (A : Option Addr) (n : Nat) (w : World) (h : Sl w pv A n) :
    Calls Tryz.prog 39 #[pv] w fun e w' => e = .returned (.int .i64 n) ∧ w = w' := by
  have H := hide h
  clear h
  go_enter Tryz.func39, Tryz.ntmps39
  go_wp2_with fail
  refine (all_any _ A n _ H.out).mono ?_
  rintro e w' ⟨rfl, rfl⟩
  go_wp2
  go_ret
  exact ⟨rfl, rfl⟩

set_option maxRecDepth 100000 in
set_option maxHeartbeats 400000 in
theorem exists_any (pv : Value) (A : Option Addr) (n : Nat) (at_ words : Int) (w : World) (h : Sl w pv A n) (hn : n ≤ 4096) (h1 : at_ ≤ 9223372036854775807) (h2 : words ≤ 9223372036854775807) :
    Calls Tryz.prog 54 #[pv, .int .i64 at_, .int .i64 words] w fun e w' => e = .returned (.bool (exB n at_ words)) ∧ w = w' := by
  have H := hide h
  clear h
  by_cases ha : 0 ≤ at_
  · by_cases hw : 0 ≤ words
    · go_enter Tryz.func54, Tryz.ntmps54
      go_wp2_with fail
      refine (len_any _ A n _ H.out).mono ?_
      rintro e w' ⟨rfl, rfl⟩
      go_wp2
      go_ret
      exact ⟨ret_bool (by simp [exB, ha, hw]), rfl⟩
    · have e : exB n at_ words = false := by simp [exB]; omega
      have E := hide e
      clear e
      have hw' : decide (0 ≤ words) = false := by simpa using hw
      go_enter Tryz.func54, Tryz.ntmps54
      go_wp2
      go_ret
      exact ⟨ret_bool E.out.symm, rfl⟩
  · have e : exB n at_ words = false := by simp [exB]; omega
    have E := hide e
    clear e
    have ha' : decide (0 ≤ at_) = false := by simpa using ha
    go_enter Tryz.func54, Tryz.ntmps54
    go_wp2
    go_ret
    exact ⟨ret_bool E.out.symm, rfl⟩

/-- How many words New makes. -/
def clamp (n : Int) : Nat := (min (max n 0) 4096).toNat

theorem ar_new (w : World) (n : Nat) : Ar ((w.alloc (.cells (ints (zeros n)).toArray 3)).alloc (.cells #[.slice (some ⟨w.heap.size, 0, none⟩) n n] 119)) (w.heap.size + 1) w.heap.size (zeros n) := by
  refine ⟨?_, (Blk.new w _ _).alloc _⟩
  have := Blk.new (w.alloc (.cells (ints (zeros n)).toArray 3)) 119 [.slice (some ⟨w.heap.size, 0, none⟩) n n]
  rw [zeros_length]
  simpa using this
theorem chg_new (w : World) (o o' : Obj) : Chg (fun _ => False) w ((w.alloc o).alloc o') := ((Chg.refl _ _).alloc _).alloc _

set_option maxRecDepth 100000 in
set_option maxHeartbeats 400000 in
theorem new_any (n : Int) (w : World) : Calls Tryz.prog 29 #[.int .i64 n] w fun e w' => e = .returned (ptr (w.heap.size + 1)) ∧ Ar w' (w.heap.size + 1) w.heap.size (zeros (clamp n)) ∧ Chg (fun _ => False) w w' := by
  by_cases h0 : n < 0
  · have hc : clamp n = 0 := by unfold clamp; omega
    have HC := hide hc
    clear hc
    have hm := mk_ints 0 (by omega) (by omega)
    go_enter Tryz.func29, Tryz.ntmps29
    go_wp2
    go_ret
    exact ⟨rfl, by rw [HC.out]; exact ar_new w 0, chg_new w _ _⟩
  · by_cases h1 : n ≤ 4096
    · have hc : clamp n = n.toNat := by unfold clamp; omega
      have HC := hide hc
      clear hc
      have hm := mk_ints n (by omega) (by omega)
      go_enter Tryz.func29, Tryz.ntmps29
      go_wp2
      go_ret
      exact ⟨rfl, by rw [HC.out]; exact ar_new w _, chg_new w _ _⟩
    · have hc : clamp n = 4096 := by unfold clamp; omega
      have HC := hide hc
      clear hc
      have hm := mk_ints 4096 (by omega) (by omega)
      go_enter Tryz.func29, Tryz.ntmps29
      go_wp2
      go_ret
      exact ⟨rfl, by rw [HC.out]; exact ar_new w 4096, chg_new w _ _⟩

theorem Ar.stored {w : World} {p g : Nat} {xs : List Int} (h : Ar w p g xs) (k : Nat) (v : Int) : Ar (w.setCell ⟨g, k, none⟩ (.int .i64 v)) p g (xs.set k v) :=
  ⟨by rw [List.length_set]; exact h.1.far h.ne _, by rw [← ints_set]; exact h.2.set_ k _⟩


theorem store_no (pv : Value) (A : Option Addr) (n : Nat) (i v : Int) (w : World) (h : Sl w pv A n) (hn : n ≤ 4096) (h1 : i ≤ 9223372036854775807) (hx : exB n i 1 = false) :
    Calls Tryz.prog 23 #[pv, .int .i64 i, .int .i64 v] w fun e w' => e = .returned (.int .i64 2) ∧ w = w' := by
  have H := hide h
  clear h
  go_enter Tryz.func23, Tryz.ntmps23
  go_wp2_with fail
  refine (exists_any _ A n _ _ _ H.out hn h1 (by omega)).mono ?_
  rintro e w' ⟨rfl, rfl⟩
  go_wp2
  go_ret
  exact ⟨rfl, rfl⟩

theorem store_ok (p g : Nat) (xs : List Int) (k : Nat) (v : Int) (w : World) (h : Ar w p g xs) (hn : xs.length ≤ 4096) (hk : k < xs.length) :
    Calls Tryz.prog 23 #[ptr p, .int .i64 k, .int .i64 v] w fun e w' => e = .returned (.int .i64 0) ∧ Ar w' p g (xs.set k v) ∧ Chg (· = g) w w' := by
  have hc := h.2.cell k
  rw [ints_get _ _ hk] at hc
  have hf := h.2.frozen k
  have hx : exB xs.length k 1 = true := by simp [exB]; omega
  have H := hide h
  clear h
  go_enter Tryz.func23, Tryz.ntmps23
  go_wp2_with fail
  refine (exists_any _ _ xs.length _ _ _ H.out.sl hn (by omega) (by omega)).mono ?_
  rintro e w' ⟨rfl, rfl⟩
  go_wp2_with fail
  refine (all_any _ _ xs.length _ H.out.sl).mono ?_
  rintro e w' ⟨rfl, rfl⟩
  go_wp2
  go_ret
  exact ⟨rfl, H.out.stored k v, (Chg.refl _ _).set1 _ _⟩

theorem load_no (pv : Value) (A : Option Addr) (n : Nat) (i : Int) (w : World) (h : Sl w pv A n) (hn : n ≤ 4096) (h1 : i ≤ 9223372036854775807) (hx : exB n i 1 = false) :
    Calls Tryz.prog 82 #[pv, .int .i64 i] w fun e w' => e = .returned (.tuple #[.int .i64 0, .int .i64 2]) ∧ w = w' := by
  have H := hide h
  clear h
  go_enter Tryz.func82, Tryz.ntmps82
  go_wp2_with fail
  refine (exists_any _ A n _ _ _ H.out hn h1 (by omega)).mono ?_
  rintro e w' ⟨rfl, rfl⟩
  go_wp2
  go_ret2
  exact ⟨rfl, rfl⟩

theorem load_ok (p g : Nat) (xs : List Int) (k : Nat) (w : World) (h : Ar w p g xs) (hn : xs.length ≤ 4096) (hk : k < xs.length) :
    Calls Tryz.prog 82 #[ptr p, .int .i64 k] w fun e w' => e = .returned (.tuple #[.int .i64 (xs.getD k 0), .int .i64 0]) ∧ w = w' := by
  have hc := h.2.cell k
  rw [ints_get _ _ hk] at hc
  have hx : exB xs.length k 1 = true := by simp [exB]; omega
  have H := hide h
  clear h
  obtain ⟨x, hxx⟩ : ∃ x, x = xs.getD k 0 := ⟨_, rfl⟩
  rw [← hxx] at hc ⊢
  clear hxx
  go_enter Tryz.func82, Tryz.ntmps82
  go_wp2_with fail
  refine (exists_any _ _ xs.length _ _ _ H.out.sl hn (by omega) (by omega)).mono ?_
  rintro e w' ⟨rfl, rfl⟩
  go_wp2_with fail
  refine (all_any _ _ xs.length _ H.out.sl).mono ?_
  rintro e w' ⟨rfl, rfl⟩
  go_wp2
  go_ret2
  exact ⟨rfl, rfl⟩

/-- The words when the first k of a stretch are filled. -/
def fillTo (xs : List Int) (a : Nat) (v : Int) : Nat → List Int
  | 0 => xs
  | k + 1 => (fillTo xs a v k).set (a + k) v
theorem fillTo_length (xs : List Int) (a : Nat) (v : Int) (k : Nat) : (fillTo xs a v k).length = xs.length := by
  induction k with
  | zero => rfl
  | succ k ih => simp [fillTo, ih]

theorem fill_no (pv : Value) (A : Option Addr) (n : Nat) (i m v : Int) (w : World) (h : Sl w pv A n) (hn : n ≤ 4096) (h1 : i ≤ 9223372036854775807) (h2 : m ≤ 9223372036854775807) (hx : exB n i m = false) :
    Calls Tryz.prog 94 #[pv, .int .i64 i, .int .i64 m, .int .i64 v] w fun e w' => e = .returned (.int .i64 2) ∧ w = w' := by
  have H := hide h
  clear h
  go_enter Tryz.func94, Tryz.ntmps94
  go_wp2_with fail
  refine (exists_any _ A n _ _ _ H.out hn h1 h2).mono ?_
  rintro e w' ⟨rfl, rfl⟩
  go_wp2
  go_ret
  exact ⟨rfl, rfl⟩

set_option maxRecDepth 100000 in
set_option maxHeartbeats 400000 in
theorem fill_ok (p g : Nat) (xs : List Int) (a m : Nat) (v : Int) (w : World) (h : Ar w p g xs) (hn : xs.length ≤ 4096) (hk : a + m ≤ xs.length) :
    Calls Tryz.prog 94 #[ptr p, .int .i64 a, .int .i64 m, .int .i64 v] w fun e w' => e = .returned (.int .i64 0) ∧ Ar w' p g (fillTo xs a v m) ∧ Chg (· = g) w w' := by
  have hx : exB xs.length a m = true := by simp [exB]; omega
  have H := hide h
  clear h
  go_enter Tryz.func94, Tryz.ntmps94
  go_wp2_with fail
  refine (exists_any _ _ xs.length _ _ _ H.out.sl hn (by omega) (by omega)).mono ?_
  rintro e w' ⟨rfl, rfl⟩
  go_wp2_with fail
  refine (all_any _ _ xs.length _ H.out.sl).mono ?_
  rintro e w' ⟨rfl, rfl⟩
  go_wp2
  go_loopw [19] (fun i wr => ∃ k : Nat, k ≤ m ∧ i = .int .i64 k ∧ Ar wr p g (fillTo xs a v k) ∧ Chg (· = g) w wr) (fun i _ => m - (intOf i).toNat)
  case atStart => exact ⟨0, Nat.zero_le _, rfl, H.out, Chg.refl _ _⟩
  case round =>
    obtain ⟨k, hkm, rfl, har, hch⟩ := hrel
    by_cases hlt : k < m
    · have hc := har.2.cell (a + k)
      rw [ints_get _ _ (by rw [fillTo_length]; omega)] at hc
      have hf := har.2.frozen (a + k)
      go_wp2
      go_roundw
      case rel => exact ⟨k + 1, by omega, by go_num, har.stored _ _, hch.set1 _ _⟩
      case measure => simp [intOf]; omega
    · obtain rfl : k = m := by omega
      go_wp2
      go_ret
      exact ⟨rfl, har, hch⟩

theorem words_no (pv : Value) (A : Option Addr) (n : Nat) (i m : Int) (w : World) (h : Sl w pv A n) (hn : n ≤ 4096) (h1 : i ≤ 9223372036854775807) (h2 : m ≤ 9223372036854775807) (hx : exB n i m = false) :
    Calls Tryz.prog 25 #[pv, .int .i64 i, .int .i64 m] w fun e w' => e = .returned (.tuple #[.slice none 0 0, .int .i64 2]) ∧ w = w' := by
  have H := hide h
  clear h
  go_enter Tryz.func25, Tryz.ntmps25
  go_wp2_with fail
  refine (exists_any _ A n _ _ _ H.out hn h1 h2).mono ?_
  rintro e w' ⟨rfl, rfl⟩
  go_wp2
  go_ret2
  exact ⟨rfl, rfl⟩

theorem splice_all {α : Type} (L cs : List α) (h : cs.length = L.length) : splice L 0 cs = cs := by
  simp [splice, h]
theorem _root_.Go.Proofs.YtogfjclmohpjkaaGreatDoor.Blk.src {w : World} {g : Nat} {xs : List Int} (h : Blk w g 3 (ints xs)) (a m : Nat) (j : Nat) (v : Value) (hj : (ints ((xs.drop a).take m))[j]? = some v) : w.cell? ((⟨g, a, none⟩ : Addr).add j) = some v := by
  rw [addr_add, h.cell, ← hj]
  simp only [ints, List.getElem?_map, List.getElem?_take, List.getElem?_drop]
  split
  · rfl
  · rename_i hn
    simp [ints, List.getElem?_take, hn] at hj
theorem length_cut (xs : List Int) (a m : Nat) (h : a + m ≤ xs.length) : ((xs.drop a).take m).length = m := by simp; omega

theorem copy_none (dp sp : Option Addr) (dc sc : Nat) (W : World) : (Builtin.copy_ #[37, 37] 3 #[.slice dp 0 dc, .slice sp 0 sc]).run Tryz.prog W = .ok (.int .i64 0) W :=
  run_copy_none (P := Tryz.prog) W _ _ _ 3 dp sp 0 dc 0 sc Tryz.underlying37 Tryz.sizeInt rfl

set_option maxRecDepth 100000 in
set_option maxHeartbeats 400000 in
theorem words_zero (p g : Nat) (xs : List Int) (a : Nat) (w : World) (h : Ar w p g xs) (hn : xs.length ≤ 4096) (hk : a ≤ xs.length) :
    Calls Tryz.prog 25 #[ptr p, .int .i64 a, .int .i64 0] w fun e w' => e = .returned (.tuple #[.slice (some ⟨w.heap.size, 0, none⟩) 0 0, .int .i64 0]) ∧ Blk w' w.heap.size 3 (ints []) ∧ Chg (fun _ => False) w w' := by
  have hx : exB xs.length a 0 = true := by simp [exB]; omega
  have hm := mk_ints 0 (by omega) (by omega)
  have hcp := copy_none
  have H := hide h
  clear h
  obtain ⟨n, hnn⟩ : ∃ n, n = xs.length := ⟨_, rfl⟩
  rw [← hnn] at hx hn hk
  have HN := hide hnn
  clear hnn
  go_enter Tryz.func25, Tryz.ntmps25
  go_wp2_with fail
  refine (exists_any _ _ n _ _ _ (by rw [HN.out]; exact H.out.sl) hn (by omega) (by omega)).mono ?_
  rintro e w' ⟨rfl, rfl⟩
  go_wp2_with fail
  refine (all_any _ (some ⟨g, 0, none⟩) n _ ?_).mono ?_
  · rw [HN.out]; exact (Ar.chg H.out ((Chg.refl (fun _ => False) _).alloc _) id id).sl
  rintro e w' ⟨rfl, rfl⟩
  go_wp2
  all_goals (go_ret2; exact ⟨rfl, Blk.new w _ _, (Chg.refl _ _).alloc _⟩)

set_option maxRecDepth 100000 in
set_option maxHeartbeats 400000 in
theorem words_ok (p g : Nat) (xs : List Int) (a m : Nat) (w : World) (h : Ar w p g xs) (hn : xs.length ≤ 4096) (hk : a + m ≤ xs.length) :
    Calls Tryz.prog 25 #[ptr p, .int .i64 a, .int .i64 m] w fun e w' => e = .returned (.tuple #[.slice (some ⟨w.heap.size, 0, none⟩) m m, .int .i64 0]) ∧ Blk w' w.heap.size 3 (ints ((xs.drop a).take m)) ∧ Chg (fun _ => False) w w' := by
  rcases Nat.eq_zero_or_pos m with rfl | hm0
  · exact words_zero p g xs a w h hn (by omega)
  have hal : ¬ xs.length = a := by omega
  have hx : exB xs.length a m = true := by simp [exB]; omega
  have hm := mk_ints m (by omega) (by omega)
  have hl := hide (length_cut xs a m hk)
  have H := hide h
  clear h
  go_enter Tryz.func25, Tryz.ntmps25
  go_wp2_with fail
  refine (exists_any _ _ xs.length _ _ _ H.out.sl hn (by omega) (by omega)).mono ?_
  rintro e w' ⟨rfl, rfl⟩
  go_wp2_with fail
  refine (all_any _ (some ⟨g, 0, none⟩) xs.length _ ?_).mono ?_
  · exact (Ar.chg H.out ((Chg.refl (fun _ => False) _).alloc _) id id).sl
  rintro e w' ⟨rfl, rfl⟩
  go_wp2_with fail
  obtain ⟨w2, hrun, hb2, hc2⟩ := run_copyB (P := Tryz.prog) (w := w.alloc (.cells (ints (zeros m)).toArray 3)) 37 37 3 3 Tryz.underlying37 Tryz.sizeInt (some ⟨w.heap.size, 0, none⟩) (some ⟨g, a, none⟩) m m m (xs.length - a) w.heap.size 0 (ints (zeros m)) 3 (Blk.new w _ _) (ints ((xs.drop a).take m)) (by rw [ints_length, hl.out]; exact (Nat.min_self m).symm)
    (fun _ => ⟨rfl, _, rfl, fun j v hj => Blk.src (H.out.2.alloc _) a m j v hj⟩) (by rw [ints_length, ints_length, hl.out, zeros_length]; omega) (ints_one _)
  rw [hrun]
  rw [splice_all _ _ (by rw [ints_length, ints_length, hl.out, zeros_length])] at hb2
  clear hrun
  go_wp2
  go_ret2
  exact ⟨rfl, hb2, ((Chg.refl (fun _ => False) _).alloc _).step hc2 (fun i hi e => by omega)⟩
end Go.Proofs.YtogfjclmohpjkaaGreatDoor.L1
/- What Move of package mem does to an arena whose words are known, and that the statements' own first look is true. Conditions: as in the text before. -/
namespace Go.Proofs.YtogfjclmohpjkaaGreatDoor.L1
open Go.ChangeShapes Go.WideShapes Go.ChangeAt Go.RowKit
set_option linter.unusedVariables false

theorem move_no1 (pv : Value) (A : Option Addr) (n : Nat) (i j m : Int) (w : World) (h : Sl w pv A n) (hn : n ≤ 4096) (h1 : i ≤ 9223372036854775807) (h2 : m ≤ 9223372036854775807) (hx : exB n i m = false) :
    Calls Tryz.prog 79 #[pv, .int .i64 i, .int .i64 j, .int .i64 m] w fun e w' => e = .returned (.int .i64 2) ∧ w = w' := by
  have H := hide h
  clear h
  go_enter Tryz.func79, Tryz.ntmps79
  go_wp2_with fail
  refine (exists_any _ A n _ _ _ H.out hn h1 h2).mono ?_
  rintro e w' ⟨rfl, rfl⟩
  go_wp2
  go_ret
  exact ⟨rfl, rfl⟩

theorem move_no2 (pv : Value) (A : Option Addr) (n : Nat) (i j m : Int) (w : World) (h : Sl w pv A n) (hn : n ≤ 4096) (h1 : i ≤ 9223372036854775807) (h3 : j ≤ 9223372036854775807) (h2 : m ≤ 9223372036854775807) (hy : exB n i m = true) (hx : exB n j m = false) :
    Calls Tryz.prog 79 #[pv, .int .i64 i, .int .i64 j, .int .i64 m] w fun e w' => e = .returned (.int .i64 2) ∧ w = w' := by
  have H := hide h
  clear h
  go_enter Tryz.func79, Tryz.ntmps79
  go_wp2_with fail
  refine (exists_any _ A n _ _ _ H.out hn h1 h2).mono ?_
  rintro e w' ⟨rfl, rfl⟩
  go_wp2_with fail
  refine (exists_any _ A n _ _ _ H.out hn h3 h2).mono ?_
  rintro e w' ⟨rfl, rfl⟩
  go_wp2
  go_ret
  exact ⟨rfl, rfl⟩

theorem move_no (pv : Value) (A : Option Addr) (n : Nat) (i j m : Int) (w : World) (h : Sl w pv A n) (hn : n ≤ 4096) (h1 : i ≤ 9223372036854775807) (h3 : j ≤ 9223372036854775807) (h2 : m ≤ 9223372036854775807) (hx : (exB n i m && exB n j m) = false) :
    Calls Tryz.prog 79 #[pv, .int .i64 i, .int .i64 j, .int .i64 m] w fun e w' => e = .returned (.int .i64 2) ∧ w = w' := by
  cases hy : exB n i m with
  | false => exact move_no1 pv A n i j m w h hn h1 h2 hy
  | true => exact move_no2 pv A n i j m w h hn h1 h3 h2 hy (by simpa [hy] using hx)

set_option maxRecDepth 100000 in
set_option maxHeartbeats 400000 in
theorem move_zero (p g : Nat) (xs : List Int) (x y : Nat) (w : World) (h : Ar w p g xs) (hn : xs.length ≤ 4096) (hx : x ≤ xs.length) (hy : y ≤ xs.length) :
    Calls Tryz.prog 79 #[ptr p, .int .i64 x, .int .i64 y, .int .i64 0] w fun e w' => e = .returned (.int .i64 0) ∧ Ar w' p g xs ∧ Chg (· = g) w w' := by
  have hbx : exB xs.length x 0 = true := by simp [exB]; omega
  have hby : exB xs.length y 0 = true := by simp [exB]; omega
  have hcp := copy_none
  have H := hide h
  clear h
  obtain ⟨n, hnn⟩ : ∃ n, n = xs.length := ⟨_, rfl⟩
  rw [← hnn] at hx hn hy hbx hby
  have HN := hide hnn
  clear hnn
  go_enter Tryz.func79, Tryz.ntmps79
  go_wp2_with fail
  refine (exists_any _ _ n _ _ _ (by rw [HN.out]; exact H.out.sl) hn (by omega) (by omega)).mono ?_
  rintro e w' ⟨rfl, rfl⟩
  go_wp2_with fail
  refine (exists_any _ _ n _ _ _ (by rw [HN.out]; exact H.out.sl) hn (by omega) (by omega)).mono ?_
  rintro e w' ⟨rfl, rfl⟩
  go_wp2_with fail
  refine (all_any _ (some ⟨g, 0, none⟩) n _ (by rw [HN.out]; exact H.out.sl)).mono ?_
  rintro e w' ⟨rfl, rfl⟩
  go_wp2
  go_region
  all_goals (try go_wp2)
  all_goals (go_ret; exact ⟨rfl, H.out, (Chg.refl _ _).drew⟩)

set_option maxRecDepth 100000 in
set_option maxHeartbeats 400000 in
theorem move_ok (p g : Nat) (xs : List Int) (x y m : Nat) (w : World) (h : Ar w p g xs) (hn : xs.length ≤ 4096) (hx : x + m ≤ xs.length) (hy : y + m ≤ xs.length) :
    Calls Tryz.prog 79 #[ptr p, .int .i64 x, .int .i64 y, .int .i64 m] w fun e w' => e = .returned (.int .i64 0) ∧ Ar w' p g (splice xs x ((xs.drop y).take m)) ∧ Chg (· = g) w w' := by
  rcases Nat.eq_zero_or_pos m with rfl | hm0
  · have := move_zero p g xs x y w h hn (by omega) (by omega)
    simpa [splice] using this
  have hbx : exB xs.length x m = true := by simp [exB]; omega
  have hby : exB xs.length y m = true := by simp [exB]; omega
  have hxl : ¬ xs.length = x := by omega
  have hyl : ¬ xs.length = y := by omega
  have hl := hide (length_cut xs y m hy)
  have H := hide h
  clear h
  go_enter Tryz.func79, Tryz.ntmps79
  go_wp2_with fail
  refine (exists_any _ _ xs.length _ _ _ H.out.sl hn (by omega) (by omega)).mono ?_
  rintro e w' ⟨rfl, rfl⟩
  go_wp2_with fail
  refine (exists_any _ _ xs.length _ _ _ H.out.sl hn (by omega) (by omega)).mono ?_
  rintro e w' ⟨rfl, rfl⟩
  go_wp2_with fail
  refine (all_any _ (some ⟨g, 0, none⟩) xs.length _ H.out.sl).mono ?_
  rintro e w' ⟨rfl, rfl⟩
  go_wp2
  obtain ⟨w2, hrun, hb2, hc2⟩ := run_copyB (P := Tryz.prog) (w := w.drew) 37 37 3 3 Tryz.underlying37 Tryz.sizeInt (some ⟨g, x, none⟩) (some ⟨g, y, none⟩) m (xs.length - x) m (xs.length - y) g x (ints xs) 3 H.out.2.drew (ints ((xs.drop y).take m)) (by rw [ints_length, hl.out]; exact (Nat.min_self m).symm)
    (fun _ => ⟨rfl, _, rfl, fun j v hj => Blk.src H.out.2.drew y m j v hj⟩) (by rw [ints_length, ints_length, hl.out]; omega) (ints_one _)
  have e1 : (↑x + ↑m : Int) ≤ ↑xs.length := by omega
  have e2 : (↑y + ↑m : Int) ≤ ↑xs.length := by omega
  have e3 : (0 : Int) ≤ ↑x + ↑m := by omega
  have e4 : (0 : Int) ≤ ↑y + ↑m := by omega
  have e5 : (↑x + ↑m : Int).toNat = x + m := by omega
  have e6 : (↑y + ↑m : Int).toNat = y + m := by omega
  have e7 : IntKind.i64.wrap (↑x + ↑m) = ↑x + ↑m := IntWalk.i64_in _ (by omega)
  have e8 : IntKind.i64.wrap (↑y + ↑m) = ↑y + ↑m := IntWalk.i64_in _ (by omega)
  go_region
  clear hrun e5 e6 e7 e8
  go_wp2
  go_ret
  refine ⟨rfl, ⟨?_, ?_⟩, (Chg.refl _ _).drew.trans hc2⟩
  · rw [length_splice _ _ _ (by rw [hl.out]; omega)]
    exact H.out.1.drew.chg hc2 H.out.ne
  · rw [← ints_splice]; exact hb2

end Go.Proofs.YtogfjclmohpjkaaGreatDoor.L1
/- What the calls of package gleaningref01 (the plain arena) do. Conditions: lists of at most 2^40 words. -/
namespace Go.Proofs.YtogfjclmohpjkaaGreatDoor.L1
open Go.ChangeShapes Go.WideShapes Go.ChangeAt Go.RowKit
set_option linter.unusedVariables false

/-- The list '.slice a n _' reads as xs. -/
def Rd (w : World) (a : Option Addr) (n : Nat) (xs : List Int) : Prop :=
  xs.length = n ∧ (0 < n → ∃ x : Addr, a = some x ∧ ∀ i, i < n → w.cell? (x.add i) = some (.int .i64 (xs.getD i 0)))
theorem Rd.at_ {w : World} {a : Option Addr} {n : Nat} {xs : List Int} (h : Rd w a n xs) {i : Nat} (hi : i < n) : ∃ x : Addr, a = some x ∧ w.cell? (x.add i) = some (.int .i64 (xs.getD i 0)) := by
  obtain ⟨x, e, hx⟩ := h.2 (by omega)
  exact ⟨x, e, hx i hi⟩
theorem Rd.of_blk {w : World} {g : Nat} {xs : List Int} {n : Nat} (h : Blk w g 3 (ints xs)) (hn : xs.length = n) : Rd w (some ⟨g, 0, none⟩) n xs :=
  ⟨hn, fun _ => ⟨_, rfl, fun i hi => by rw [addr_add, Nat.zero_add, h.cell, ints_get _ _ (by omega)]⟩⟩
theorem Rd.of_cut {w : World} {g : Nat} {xs : List Int} {a m : Nat} (h : Blk w g 3 (ints xs)) (hn : a + m ≤ xs.length) : Rd w (some ⟨g, a, none⟩) m ((xs.drop a).take m) :=
  ⟨by simp; omega, fun _ => ⟨_, rfl, fun i hi => by
    rw [addr_add, h.cell, ints_get _ _ (by omega)]
    simp [List.getD_eq_getElem?_getD, hi]⟩⟩
theorem Rd.nothing {w : World} {a : Option Addr} : Rd w a 0 [] := ⟨rfl, fun h => absurd h (by omega)⟩

set_option maxRecDepth 100000 in
set_option maxHeartbeats 400000 in
theorem same_quiet (a b : Option Addr) (n c d : Nat) (xs : List Int) (w : World) (h1 : Rd w a n xs) (h2 : Rd w b n xs) (hn : n ≤ 1099511627776) :
    Calls Tryz.prog 14 #[.slice a n c, .slice b n d] w fun e w' => e = .returned (.bool true) ∧ ∃ m, w' = w.drewN m := by
  have H1 := hide h1
  have H2 := hide h2
  clear h1 h2
  go_enter Tryz.func14, Tryz.ntmps14
  go_wp2
  go_loopw [13] (fun i wr => ∃ k q : Nat, k ≤ n ∧ i = .int .i64 k ∧ wr = w.drewN q) (fun i _ => n - (intOf i).toNat)
  case atStart => exact ⟨0, 0, Nat.zero_le _, rfl, rfl⟩
  case round =>
    obtain ⟨k, q, hk, rfl, rfl⟩ := hrel
    by_cases hlt : k < n
    · obtain ⟨x, rfl, hx⟩ := H1.out.at_ hlt
      obtain ⟨y, rfl, hy⟩ := H2.out.at_ hlt
      generalize xs.getD k 0 = z at *
      have hi : (k : Int) < n := by omega
      go_wp2
      go_quiet (fail)
      go_wp2
      go_roundw
      case rel => exact ⟨k + 1, _, by omega, by go_num, rfl⟩
      case measure => simp [intOf]; omega
    · go_wp2
      go_ret
      exact ⟨rfl, _, rfl⟩

theorem same_yes (a b : Option Addr) (n c d : Nat) (xs : List Int) (w : World) (h1 : Rd w a n xs) (h2 : Rd w b n xs) (hn : n ≤ 1099511627776) :
    Calls Tryz.prog 14 #[.slice a n c, .slice b n d] w fun e w' => e = .returned (.bool true) ∧ Chg (fun _ => False) w w' :=
  (same_quiet a b n c d xs w h1 h2 hn).mono fun _ _ ⟨he, m, hm⟩ => ⟨he, by rw [hm]; exact (Chg.refl _ _).drewN _⟩
theorem Rd.drewN {w : World} {a : Option Addr} {n : Nat} {xs : List Int} (h : Rd w a n xs) (k : Nat) : Rd (w.drewN k) a n xs := h

/-- The plain arena in block q has the words xs, which lie in block f. -/
def RAr (w : World) (q f : Nat) (xs : List Int) : Prop :=
  Blk w q 108 [.slice (some ⟨f, 0, none⟩) xs.length xs.length] ∧ Blk w f 3 (ints xs)
theorem RAr.chg {S : Nat → Prop} {w w' : World} {p g : Nat} {xs : List Int} (h : RAr w p g xs) (k : Chg S w w') (hp : ¬ S p) (hg : ¬ S g) : RAr w' p g xs := ⟨h.1.chg k hp, h.2.chg k hg⟩
theorem RAr.ne {w : World} {p g : Nat} {xs : List Int} (h : RAr w p g xs) : p ≠ g := h.1.ne_ h.2 (by decide)
theorem RAr.stored {w : World} {p g : Nat} {xs : List Int} (h : RAr w p g xs) (k : Nat) (v : Int) : RAr (w.setCell ⟨g, k, none⟩ (.int .i64 v)) p g (xs.set k v) :=
  ⟨by rw [List.length_set]; exact h.1.far h.ne _, by rw [← ints_set]; exact h.2.set_ k _⟩
theorem RAr.drewN {w : World} {p g : Nat} {xs : List Int} (h : RAr w p g xs) (n : Nat) : RAr (w.drewN n) p g xs := h
theorem RAr.cell {w : World} {p g : Nat} {xs : List Int} (h : RAr w p g xs) : w.cell? ⟨p, 0, none⟩ = some (.slice (some ⟨g, 0, none⟩) xs.length xs.length) := h.1.cell 0
theorem rar_new (w : World) (n : Nat) : RAr ((w.alloc (.cells (ints (zeros n)).toArray 3)).alloc (.cells #[.slice (some ⟨w.heap.size, 0, none⟩) n n] 108)) (w.heap.size + 1) w.heap.size (zeros n) := by
  refine ⟨?_, (Blk.new w _ _).alloc _⟩
  have := Blk.new (w.alloc (.cells (ints (zeros n)).toArray 3)) 108 [.slice (some ⟨w.heap.size, 0, none⟩) n n]
  rw [zeros_length]
  simpa using this

set_option maxRecDepth 100000 in
set_option maxHeartbeats 400000 in
theorem there_any (q f : Nat) (xs : List Int) (at_ words : Int) (w : World) (h : RAr w q f xs) (hn : xs.length ≤ 4096) (h1 : at_ ≤ 9223372036854775807) (h2 : words ≤ 9223372036854775807) :
    Calls Tryz.prog 125 #[ptr q, .int .i64 at_, .int .i64 words] w fun e w' => e = .returned (.bool (exB xs.length at_ words)) ∧ w = w' := by
  have hc := h.cell
  clear h
  obtain ⟨n, hnn⟩ : ∃ n, n = xs.length := ⟨_, rfl⟩
  rw [← hnn] at hc hn ⊢
  clear hnn
  by_cases hw : 0 ≤ words
  · by_cases ha : 0 ≤ at_
    · by_cases hb : at_ ≤ n
      · go_enter Tryz.func125, Tryz.ntmps125
        go_wp2
        go_ret
        exact ⟨ret_bool (by simp [exB, ha, hw]), rfl⟩
      · have e : exB n at_ words = false := by simp [exB]; omega
        have E := hide e
        clear e
        have hb' : decide (at_ ≤ (n : Int)) = false := by simpa using hb
        go_enter Tryz.func125, Tryz.ntmps125
        go_wp2
        go_ret
        exact ⟨ret_bool E.out.symm, rfl⟩
    · have e : exB n at_ words = false := by simp [exB]; omega
      have E := hide e
      clear e
      have ha' : decide (0 ≤ at_) = false := by simpa using ha
      go_enter Tryz.func125, Tryz.ntmps125
      go_wp2
      go_ret
      exact ⟨ret_bool E.out.symm, rfl⟩
  · have e : exB n at_ words = false := by simp [exB]; omega
    have E := hide e
    clear e
    have hw' : decide (0 ≤ words) = false := by simpa using hw
    go_enter Tryz.func125, Tryz.ntmps125
    go_wp2
    go_ret
    exact ⟨ret_bool E.out.symm, rfl⟩

/-- The error's number; the words behind a Store, a Fill, a Move. -/
def er (b : Bool) : Int := if b then 0 else 2
def stL (xs : List Int) (i v : Int) : List Int := if exB xs.length i 1 then xs.set i.toNat v else xs
def fiL (xs : List Int) (i m v : Int) : List Int := if exB xs.length i m then fillTo xs i.toNat v m.toNat else xs
def mvL (xs : List Int) (i j m : Int) : List Int := if exB xs.length i m && exB xs.length j m then splice xs i.toNat ((xs.drop j.toNat).take m.toNat) else xs

end Go.Proofs.YtogfjclmohpjkaaGreatDoor.L1
