/- Objects in an arena: what a store is, and what stands at an address, as numbers. Conditions: an arena has at most 4096 words; the classes can be; there are at most 100. -/
import Derived.Test.YtogfjclmohpjkaaGreatDoorL1A
import Derived.Test.YtogfjclmohpjkaaGreatDoorL4A
import Derived.Test.YtogfjclmohpjkaaGreatDoorL5A
import Derived.LoopTactic
import Derived.WalkMore
namespace Go.Proofs.YtogfjclmohpjkaaGreatDoor.L6
open Go.ChangeShapes Go.WideShapes Go.ChangeAt Go.RowKit
open Go.Proofs.YtogfjclmohpjkaaGreatDoor.L1 (Sl Ar ptr exB)
open Go.Proofs.YtogfjclmohpjkaaGreatDoor.L4 (hdV riB wd wdV wdX ofB ofC ofA ofF ofM ofN ofD ofV ofX set6)
open Go.Proofs.YtogfjclmohpjkaaGreatDoor.L5 (Cl clV rtB Tb clAt shX shR shD woV c0 IsCls newX)
set_option linter.unusedVariables false
set_option maxRecDepth 100000

theorem ret_any {a b : Value} (h : a = b) : Ending.returned a = .returned b := by rw [h]
abbrev stV (p tp : Option Addr) : Value := .agg #[.pointer p, .pointer tp]
/-- The arena at a pointer has the words xs, in block g; a nil one has none. -/
def Am (w : World) (p : Option Addr) (g : Nat) (xs : List Int) : Prop := (p = none ∧ xs = []) ∨ ∃ b, p = some ⟨b, 0, none⟩ ∧ Ar w b g xs
/-- A store: its arena's words, its table's classes; the words lie in a block of their own. -/
structure St (w : World) (p tp : Option Addr) (g : Nat) (xs : List Int) (cs : List Cl) : Prop where
  ar : Am w p g xs
  tb : ∃ base v, Tb w base tp v cs ∧ ¬ v.ownBlock = some g ∧ ¬ tp = some ⟨g, 0, none⟩
  n : xs.length ≤ 4096
  cl : cs.length ≤ 100
  rt : cs.all Cl.rt = true

section
variable {w w' : World} {p tp : Option Addr} {g : Nat} {xs ys : List Int} {cs : List Cl}
theorem Am.sl (h : Am w p g xs) : ∃ A, Sl w (.pointer p) A xs.length := by
  rcases h with ⟨rfl, rfl⟩ | ⟨b, rfl, h⟩
  · exact ⟨none, .inl ⟨rfl, rfl, rfl⟩⟩
  · exact ⟨_, h.sl⟩
theorem St.grow (h : St w p tp g xs cs) (c : Grow w w') : St w' p tp g xs cs := by
  refine ⟨?_, ?_, h.n, h.cl, h.rt⟩
  · rcases h.ar with ⟨e1, e2⟩ | ⟨b, e, ha⟩
    · exact .inl ⟨e1, e2⟩
    · exact .inr ⟨b, e, ha.chg c id id⟩
  · obtain ⟨base, v, ht, h1, h2⟩ := h.tb
    exact ⟨base, v, ht.grow c, h1, h2⟩
/-- Other words in the same arena. -/
theorem St.put {b : Nat} (h : St w (some ⟨b, 0, none⟩) tp g xs cs) (ha : Ar w' b g ys) (hl : ys.length = xs.length) (c : Chg (· = g) w w') : St w' (some ⟨b, 0, none⟩) tp g ys cs := by
  refine ⟨.inr ⟨b, rfl, ha⟩, ?_, by rw [hl]; exact h.n, h.cl, h.rt⟩
  obtain ⟨base, v, ht, h1, h2⟩ := h.tb
  refine ⟨base, v, ?_, h1, h2⟩
  obtain ⟨t1, t2⟩ := ht
  refine ⟨own_chg t1 c (fun k hk hS => h1 (by rw [hk, hS])), ?_⟩
  rcases t2 with t2 | ⟨k, e, hb, hk⟩
  · exact .inl t2
  · exact .inr ⟨k, e, hb, hk.chg c (fun hS => h2 (by rw [e, hS]))⟩
theorem St.tab (h : St w p tp g xs cs) : ∃ base v, Tb w base tp v cs := by
  obtain ⟨base, v, ht, _⟩ := h.tb
  exact ⟨base, v, ht⟩
end

/-- What stands at an address: its head, its words, its references, its numbers. -/
structure Th where
  C : Int
  A : Int
  F : Int
  m : Bool
  f : Bool
  d : Bool
  w : Int
  r : Int
  n : Int
abbrev Th.v (t : Th) : Value := .agg #[.int .i64 t.C, .int .i64 t.A, .int .i64 t.F, .bool t.m, .bool t.f, .bool t.d, .int .i64 t.w, .int .i64 t.r, .int .i64 t.n]
abbrev Th.cells (t : Th) : List Value := [.int .i64 t.C, .int .i64 t.A, .int .i64 t.F, .bool t.m, .bool t.f, .bool t.d, .int .i64 t.w, .int .i64 t.r, .int .i64 t.n]
def th0 : Th := ⟨0, 0, 0, false, false, false, 0, 0, 0⟩
/-- A word; is there one; are there some words from an address on. -/
def gw (xs : List Int) (i : Int) : Int := xs.getD i.toNat 0
def ldB (xs : List Int) (i : Int) : Bool := decide (0 ≤ i ∧ i < xs.length)
def ldV (xs : List Int) (i : Int) : Int := if ldB xs i then gw xs i else 0
def ldX (xs : List Int) (i : Int) : Int := if ldB xs i then 0 else 2
def oxB (n : Nat) (at_ words : Int) : Bool := decide (1 ≤ at_ ∧ words ≤ n - at_)
/-- What a head at an address says that there is; can it be. -/
def meT (xs : List Int) (cs : List Cl) (i C A F : Int) (m f d : Bool) : Th :=
  if C = 0 ∧ m = true then ⟨C, A, F, m, f, d, 1, 0, 0⟩
  else if i + 1 < xs.length then
    if C = 0 then ⟨C, A, F, m, f, d, gw xs (i + 1), 0, 0⟩
    else ⟨C, A, F, m, f, d, 2 + shR (clAt cs C) (gw xs (i + 1)) + shD (clAt cs C) (gw xs (i + 1)), shR (clAt cs C) (gw xs (i + 1)), shD (clAt cs C) (gw xs (i + 1))⟩
  else th0
def meB (xs : List Int) (cs : List Cl) (i C : Int) (m : Bool) : Bool :=
  if C = 0 ∧ m = true then true
  else if i + 1 < xs.length then
    if C = 0 then decide (2 ≤ gw xs (i + 1)) else decide (shX (clAt cs C) (gw xs (i + 1)) = 0)
  else false
/-- The thing of a word at an address; is there one; the error's number. -/
def woT (xs : List Int) (cs : List Cl) (i : Int) : Th := meT xs cs i (ofC (gw xs i)) (ofA (gw xs i)) (ofF (gw xs i)) (ofM (gw xs i)) (ofN (gw xs i)) (ofD (gw xs i))
def fdB (xs : List Int) (cs : List Cl) (i : Int) : Bool := oxB xs.length i 1 && (ofB (gw xs i) && (meB xs cs i (ofC (gw xs i)) (ofM (gw xs i)) && oxB xs.length i (woT xs cs i).w))
def fdT (xs : List Int) (cs : List Cl) (i : Int) : Th := if fdB xs cs i then woT xs cs i else th0
def fdX (xs : List Int) (cs : List Cl) (i : Int) : Int := if oxB xs.length i 1 then (if fdB xs cs i then 0 else 12) else 2
/-- The same of an object. -/
def obX (xs : List Int) (cs : List Cl) (i : Int) : Int := if fdX xs cs i = 0 then (if (fdT xs cs i).C = 0 then 5 else 0) else fdX xs cs i
def obT (xs : List Int) (cs : List Cl) (i : Int) : Th := if obX xs cs i = 0 then fdT xs cs i else th0

/-- Stores into a block of nine cells. -/
abbrev set9 (w : World) (g : Nat) (a b c d e f x y z : Value) : World := (((set6 w g a b c d e f).setCell ⟨g, 6, none⟩ x).setCell ⟨g, 7, none⟩ y).setCell ⟨g, 8, none⟩ z
section
variable {w w' : World} {g : Nat} {t : TypeId} {a b c d e f x y z a' b' c' d' e' f' x' y' z' : Value}
theorem _root_.Go.Proofs.YtogfjclmohpjkaaGreatDoor.Blk.cell9 (h : Blk w g t [a, b, c, d, e, f, x, y, z]) : w.cell? ⟨g, 0, none⟩ = some a ∧ w.cell? ⟨g, 1, none⟩ = some b ∧ w.cell? ⟨g, 2, none⟩ = some c ∧ w.cell? ⟨g, 3, none⟩ = some d ∧ w.cell? ⟨g, 4, none⟩ = some e ∧ w.cell? ⟨g, 5, none⟩ = some f ∧ w.cell? ⟨g, 6, none⟩ = some x ∧ w.cell? ⟨g, 7, none⟩ = some y ∧ w.cell? ⟨g, 8, none⟩ = some z :=
  ⟨h.cell 0, h.cell 1, h.cell 2, h.cell 3, h.cell 4, h.cell 5, h.cell 6, h.cell 7, h.cell 8⟩
theorem _root_.Go.Proofs.YtogfjclmohpjkaaGreatDoor.Blk.put9 (h : Blk w g t [a', b', c', d', e', f', x', y', z']) (a b c d e f x y z : Value) : Blk (set9 w g a b c d e f x y z) g t [a, b, c, d, e, f, x, y, z] :=
  ((((((((h.set_ 0 a).set_ 1 b).set_ 2 c).set_ 3 d).set_ 4 e).set_ 5 f).set_ 6 x).set_ 7 y).set_ 8 z
theorem _root_.Go.Proofs.YtogfjclmohpjkaaGreatDoor.Blk.far9 {p : Nat} {cs : List Value} (h : Blk w g t cs) (hp : ¬ g = p) (a b c d e f x y z : Value) : Blk (set9 w p a b c d e f x y z) g t cs :=
  (((h.far6 hp a b c d e f).far (p := ⟨p, 6, none⟩) hp x).far (p := ⟨p, 7, none⟩) hp y).far (p := ⟨p, 8, none⟩) hp z
theorem _root_.Go.Proofs.YtogfjclmohpjkaaGreatDoor.Fresh.put9 (h : Fresh w g) (k : Grow w w') (a b c d e f x y z : Value) : Grow w (set9 w' g a b c d e f x y z) :=
  h.put (h.put (h.put (h.put6 k a b c d e f) 6 x) 7 y) 8 z
theorem _root_.Go.Proofs.YtogfjclmohpjkaaGreatDoor.Blk.frozen9 {cs : List Value} (h : Blk w g t cs) : w.frozen? ⟨g, 0, none⟩ = false ∧ w.frozen? ⟨g, 1, none⟩ = false ∧ w.frozen? ⟨g, 2, none⟩ = false ∧ w.frozen? ⟨g, 3, none⟩ = false ∧ w.frozen? ⟨g, 4, none⟩ = false ∧ w.frozen? ⟨g, 5, none⟩ = false ∧ w.frozen? ⟨g, 6, none⟩ = false ∧ w.frozen? ⟨g, 7, none⟩ = false ∧ w.frozen? ⟨g, 8, none⟩ = false :=
  ⟨h.frozen 0, h.frozen 1, h.frozen 2, h.frozen 3, h.frozen 4, h.frozen 5, h.frozen 6, h.frozen 7, h.frozen 8⟩
theorem _root_.Go.Proofs.YtogfjclmohpjkaaGreatDoor.Blk.cell2 (h : Blk w g t [a, b]) : w.cell? ⟨g, 0, none⟩ = some a ∧ w.cell? ⟨g, 1, none⟩ = some b := ⟨h.cell 0, h.cell 1⟩
end
end Go.Proofs.YtogfjclmohpjkaaGreatDoor.L6
/- What exists, measure, find and object answer; they change nothing but make new memory. Conditions: the numbers given fit their kinds. -/
namespace Go.Proofs.YtogfjclmohpjkaaGreatDoor.L6
open Go.ChangeShapes Go.WideShapes Go.ChangeAt Go.RowKit
open Go.Proofs.YtogfjclmohpjkaaGreatDoor.L1 (Sl Ar ptr exB)
open Go.Proofs.YtogfjclmohpjkaaGreatDoor.L4 (hdV riB wd wdV wdX ofB ofC ofA ofF ofM ofN ofD ofV ofX set6)
open Go.Proofs.YtogfjclmohpjkaaGreatDoor.L5 (Cl clV rtB Tb clAt shX shR shD woV c0 IsCls newX)
set_option linter.unusedVariables false
set_option maxRecDepth 100000

section
variable {w w' : World} {p tp : Option Addr} {g : Nat} {xs ys : List Int} {cs : List Cl}
theorem len_any (h : Am w p g xs) : Calls Tryz.prog 39 #[.pointer p] w fun e w' => e = .returned (.int .i64 xs.length) ∧ w = w' := by
  obtain ⟨A, hA⟩ := h.sl
  exact L1.len_any _ A _ _ hA
theorem load_any (h : Am w p g xs) (hn : xs.length ≤ 4096) (i : Int) (h1 : i ≤ 9223372036854775807) :
    Calls Tryz.prog 82 #[.pointer p, .int .i64 i] w fun e w' => e = .returned (.tuple #[.int .i64 (ldV xs i), .int .i64 (ldX xs i)]) ∧ w = w' := by
  by_cases hi : 0 ≤ i ∧ i < xs.length
  · have e : ldB xs i = true := by simpa [ldB] using hi
    rcases h with ⟨rfl, rfl⟩ | ⟨b, rfl, h⟩
    · simp at hi; omega
    · obtain ⟨k, rfl⟩ := Int.eq_ofNat_of_zero_le hi.1
      have := L1.load_ok b g xs k w h hn (by omega)
      simpa [ldV, ldX, e, gw] using this
  · have e : ldB xs i = false := by simpa [ldB] using hi
    obtain ⟨A, hA⟩ := h.sl
    have := L1.load_no _ A _ i w hA hn h1 (by simp [exB]; omega)
    simpa [ldV, ldX, e] using this
set_option maxHeartbeats 400000 in
theorem exists_any (h : St w p tp g xs cs) (i m : Int) (h1 : i ≤ 9223372036854775807) :
    Calls Tryz.prog 91 #[stV p tp, .int .i64 i, .int .i64 m] w fun e w' => e = .returned (.bool (oxB xs.length i m)) ∧ Grow w w' := by
  have hn := h.n
  have H := hide (h.grow (Grow.box w (.cells [.pointer p, .pointer tp].toArray 32))).ar
  clear h
  by_cases ha : 1 ≤ i
  · have HE := hide (show oxB xs.length i m = decide (m ≤ (xs.length : Int) - i) by simp [oxB, ha])
    go_enter Tryz.func91, Tryz.ntmps91
    go_wp2_with (go_at_call 39; refine (len_any H.out).mono ?_; rintro e w' ⟨rfl, rfl⟩)
    go_ret
    exact ⟨ret_bool HE.out.symm, Grow.box _ _⟩
  · have ha' : decide (1 ≤ i) = false := by simpa using ha
    have HE := hide (show oxB xs.length i m = false by simp [oxB, ha])
    go_enter Tryz.func91, Tryz.ntmps91
    go_wp2
    go_ret
    exact ⟨ret_bool HE.out.symm, Grow.box _ _⟩
theorem exists_is {i m : Int} {b : Bool} (h : St w p tp g xs cs) (h1 : i ≤ 9223372036854775807) (hb : oxB xs.length i m = b) :
    Calls Tryz.prog 91 #[stV p tp, .int .i64 i, .int .i64 m] w fun e w' => e = .returned (.bool b) ∧ Grow w w' := by
  have h' := exists_any h i m h1
  rwa [hb] at h'
theorem load_is {i V X : Int} (h : Am w p g xs) (hn : xs.length ≤ 4096) (h1 : i ≤ 9223372036854775807) (hV : ldV xs i = V) (hX : ldX xs i = X) :
    Calls Tryz.prog 82 #[.pointer p, .int .i64 i] w fun e w' => e = .returned (.tuple #[.int .i64 V, .int .i64 X]) ∧ w = w' := by
  have h' := load_any h hn i h1
  rwa [hV, hX] at h'

set_option maxHeartbeats 1000000 in
theorem measure_single (h : St w p tp g xs cs) (i A F : Int) (f d : Bool) :
    Calls Tryz.prog 112 #[stV p tp, .int .i64 i, hdV 0 A F true f d] w fun e w' => e = .returned (.tuple #[(⟨0, A, F, true, f, d, 1, 0, 0⟩ : Th).v, .bool true]) ∧ Grow w w' := by
  have H := hide h
  clear h
  go_enter Tryz.func112, Tryz.ntmps112
  go_wp2
  refine bodyPost_ret (v := .tuple #[(⟨0, A, F, true, f, d, 1, 0, 0⟩ : Th).v, .bool true]) (by simp [results, Tryz.results112, go_sem]) rfl ?_
  exact ⟨rfl, ((Grow.box _ _).alloc _).alloc _⟩
set_option maxHeartbeats 1000000 in
theorem measure_off (h : St w p tp g xs cs) (i C A F : Int) (m f d : Bool) (h0 : 1 ≤ i) (h1 : i < xs.length) (hc : ¬ C = 0 ∨ m = false) (h2 : (xs.length : Int) ≤ i + 1) :
    Calls Tryz.prog 112 #[stV p tp, .int .i64 i, hdV C A F m f d] w fun e w' => e = .returned (.tuple #[th0.v, .bool false]) ∧ Grow w w' := by
  have hn := h.n
  have e : ldB xs (i + 1) = false := by simp [ldB]; omega
  have HV := hide (show ldV xs (i + 1) = 0 ∧ ldX xs (i + 1) = 2 by simp [ldV, ldX, e])
  clear e
  by_cases hz : C = 0
  · obtain rfl : m = false := by simpa [hz] using hc
    subst hz
    clear hc
    have H := hide h
    clear h
    go_enter Tryz.func112, Tryz.ntmps112
    have HW := hide (show wrap64 (i + 1) = i + 1 from wrap64_id _ (by omega))
    have A1 := hide (H.out.grow (((Grow.box w (.cells [.pointer p, .pointer tp].toArray 32)).alloc (.cells [.int .i64 0, .int .i64 A, .int .i64 F, .bool false, .bool f, .bool d].toArray 123)).alloc (.cells [.int .i64 0, .int .i64 0, .int .i64 0, .bool false, .bool false, .bool false, .int .i64 0, .int .i64 0, .int .i64 0].toArray 128))).ar
    go_wp2_with fail
    refine (load_is A1.out hn (by omega) HV.out.1 HV.out.2).mono ?_
    rintro e w' ⟨rfl, rfl⟩
    go_wp2
    refine bodyPost_ret (v := .tuple #[(⟨0, 0, 0, false, false, false, 0, 0, 0⟩ : Th).v, .bool false]) (by simp [results, Tryz.results112, go_sem]) rfl ?_
    exact ⟨rfl, ((Grow.box _ _).alloc _).alloc _⟩
  · clear hc
    have H := hide h
    clear h
    go_enter Tryz.func112, Tryz.ntmps112
    have HW := hide (show wrap64 (i + 1) = i + 1 from wrap64_id _ (by omega))
    have A1 := hide (H.out.grow (((Grow.box w (.cells [.pointer p, .pointer tp].toArray 32)).alloc (.cells [.int .i64 C, .int .i64 A, .int .i64 F, .bool m, .bool f, .bool d].toArray 123)).alloc (.cells [.int .i64 0, .int .i64 0, .int .i64 0, .bool false, .bool false, .bool false, .int .i64 0, .int .i64 0, .int .i64 0].toArray 128))).ar
    go_wp2_with fail
    refine (load_is A1.out hn (by omega) HV.out.1 HV.out.2).mono ?_
    rintro e w' ⟨rfl, rfl⟩
    go_wp2
    refine bodyPost_ret (v := .tuple #[(⟨0, 0, 0, false, false, false, 0, 0, 0⟩ : Th).v, .bool false]) (by simp [results, Tryz.results112, go_sem]) rfl ?_
    exact ⟨rfl, ((Grow.box _ _).alloc _).alloc _⟩
set_option maxHeartbeats 1000000 in
theorem measure_gap (h : St w p tp g xs cs) (i A F s : Int) (f d : Bool) (h0 : 1 ≤ i) (h2 : i + 1 < xs.length) (hs : gw xs (i + 1) = s) :
    Calls Tryz.prog 112 #[stV p tp, .int .i64 i, hdV 0 A F false f d] w fun e w' => e = .returned (.tuple #[(⟨0, A, F, false, f, d, s, 0, 0⟩ : Th).v, .bool (decide (2 ≤ s))]) ∧ Grow w w' := by
  have hn := h.n
  have e : ldB xs (i + 1) = true := by simp [ldB]; omega
  have HV := hide (show ldV xs (i + 1) = s ∧ ldX xs (i + 1) = 0 by simp [ldV, ldX, e, hs])
  clear e hs
  have H := hide h
  clear h
  go_enter Tryz.func112, Tryz.ntmps112
  have HW := hide (show wrap64 (i + 1) = i + 1 from wrap64_id _ (by omega))
  have A1 := hide (H.out.grow (((Grow.box w (.cells [.pointer p, .pointer tp].toArray 32)).alloc (.cells [.int .i64 0, .int .i64 A, .int .i64 F, .bool false, .bool f, .bool d].toArray 123)).alloc (.cells [.int .i64 0, .int .i64 0, .int .i64 0, .bool false, .bool false, .bool false, .int .i64 0, .int .i64 0, .int .i64 0].toArray 128))).ar
  go_wp2_with fail
  refine (load_is A1.out hn (by omega) HV.out.1 HV.out.2).mono ?_
  rintro e w' ⟨rfl, rfl⟩
  go_wp2
  refine bodyPost_ret (v := .tuple #[(⟨0, A, F, false, f, d, s, 0, 0⟩ : Th).v, .bool (decide (2 ≤ s))]) (by simp [results, Tryz.results112, go_sem]) rfl ?_
  exact ⟨rfl, ((Grow.box _ _).alloc _).alloc _⟩
theorem shape_is {n l R D X : Int} {base : Nat} {v : Value} (h : Tb w base tp v cs) (hl : cs.length ≤ 100) (hall : cs.all Cl.rt = true) (hR : shR (clAt cs n) l = R) (hD : shD (clAt cs n) l = D) (hX : shX (clAt cs n) l = X) :
    Calls Tryz.prog 113 #[.pointer tp, .int .i64 n, .int .i64 l] w fun e w' => e = .returned (.tuple #[.int .i64 R, .int .i64 D, .int .i64 X]) ∧ Grow w w' := by
  have h' := L5.shape_any h hl hall l n
  rwa [hR, hD, hX] at h'
set_option maxHeartbeats 1000000 in
theorem measure_obj (h : St w p tp g xs cs) (i C A F L R D X : Int) (m f d : Bool) (h0 : 1 ≤ i) (h2 : i + 1 < xs.length) (hC : ¬ C = 0) (hs : gw xs (i + 1) = L) (hR : shR (clAt cs C) L = R) (hD : shD (clAt cs C) L = D) (hX : shX (clAt cs C) L = X) :
    Calls Tryz.prog 112 #[stV p tp, .int .i64 i, hdV C A F m f d] w fun e w' => e = .returned (.tuple #[(⟨C, A, F, m, f, d, 2 + R + D, R, D⟩ : Th).v, .bool (X == 0)]) ∧ Grow w w' := by
  have hn := h.n
  have e : ldB xs (i + 1) = true := by simp [ldB]; omega
  have HV := hide (show ldV xs (i + 1) = L ∧ ldX xs (i + 1) = 0 by simp [ldV, ldX, e, hs])
  have HR := hide hR
  have HD := hide hD
  have HX := hide hX
  have hbd : 0 ≤ R ∧ R ≤ 30 ∧ 0 ≤ D ∧ D ≤ 30 ∧ R + D ≤ 30 := by
    have := L5.sh_bd (o := clAt cs C) (fun c hc => L5.clAt_rt h.rt hc) L
    rwa [hR, hD] at this
  clear e hs hR hD hX
  have HW := hide (show wrap64 (i + 1) = i + 1 from wrap64_id _ (by omega))
  obtain ⟨hs, hb, hr, cc, fs, fb, fr, n_sb, n_sr, n_br⟩ := boxes3 w 32 [.pointer p, .pointer tp] 123 [.int .i64 C, .int .i64 A, .int .i64 F, .bool m, .bool f, .bool d] 128 [.int .i64 0, .int .i64 0, .int .i64 0, .bool false, .bool false, .bool false, .int .i64 0, .int .i64 0, .int .i64 0]
  have H := hide h
  clear h
  go_enter Tryz.func112, Tryz.ntmps112
  go_wp2_with fail
  generalize ((w.alloc (.cells #[.pointer p, .pointer tp] 32)).alloc (.cells #[.int .i64 C, .int .i64 A, .int .i64 F, .bool m, .bool f, .bool d] 123)).alloc (.cells #[.int .i64 0, .int .i64 0, .int .i64 0, .bool false, .bool false, .bool false, .int .i64 0, .int .i64 0, .int .i64 0] 128) = w3 at *
  generalize w.heap.size + 1 + 1 = r at *
  generalize w.heap.size + 1 = b at *
  generalize w.heap.size = s at *
  refine (load_is (H.out.grow cc).ar hn (by omega) HV.out.1 HV.out.2).mono ?_
  rintro e w' ⟨rfl, rfl⟩
  obtain ⟨s0, s1⟩ := hs.cell2
  obtain ⟨b0, b1, b2, b3, b4, b5⟩ := hb.cell6
  go_wp2_with fail
  obtain ⟨base, v, ht⟩ := (H.out.grow cc).tab
  refine (shape_is ht H.out.cl H.out.rt HR.out HD.out HX.out).mono ?_
  rintro e w4 ⟨rfl, c4⟩
  clear ht s0 s1 b0 b1 b2 b3 b4 b5 hs
  replace hb := hb.chg c4 id
  replace hr := hr.chg c4 id
  replace cc := cc.trans c4
  clear c4
  obtain ⟨b0, b1, b2, b3, b4, b5⟩ := hb.cell6
  obtain ⟨r0, r1, r2, r3, r4, r5, r6, r7, r8⟩ := hr.cell9
  obtain ⟨k0, k1, k2, k3, k4, k5, k6, k7, k8⟩ := hr.frozen9
  go_wp2
  clear b0 b1 b2 b3 b4 b5 r0 r1 r2 r3 r4 r5 r6 r7 r8 k0 k1 k2 k3 k4 k5 k6 k7 k8
  have hr' : Blk (((((((((w4.setCell ⟨r, 0, none⟩ (.int .i64 C)).setCell ⟨r, 1, none⟩ (.int .i64 A)).setCell ⟨r, 2, none⟩ (.int .i64 F)).setCell ⟨r, 3, none⟩ (.bool m)).setCell ⟨r, 4, none⟩ (.bool f)).setCell ⟨r, 5, none⟩ (.bool d)).setCell ⟨r, 6, none⟩ (.int .i64 (2 + R + D))).setCell ⟨r, 7, none⟩ (.int .i64 R)).setCell ⟨r, 8, none⟩ (.int .i64 D)) r 128 [.int .i64 C, .int .i64 A, .int .i64 F, .bool m, .bool f, .bool d, .int .i64 (2 + R + D), .int .i64 R, .int .i64 D] := hr.put9 (.int .i64 C) (.int .i64 A) (.int .i64 F) (.bool m) (.bool f) (.bool d) (.int .i64 (2 + R + D)) (.int .i64 R) (.int .i64 D)
  have cc' := fr.put9 cc (.int .i64 C) (.int .i64 A) (.int .i64 F) (.bool m) (.bool f) (.bool d) (.int .i64 (2 + R + D)) (.int .i64 R) (.int .i64 D)
  change Grow _ (((((((((w4.setCell ⟨r, 0, none⟩ (.int .i64 C)).setCell ⟨r, 1, none⟩ (.int .i64 A)).setCell ⟨r, 2, none⟩ (.int .i64 F)).setCell ⟨r, 3, none⟩ (.bool m)).setCell ⟨r, 4, none⟩ (.bool f)).setCell ⟨r, 5, none⟩ (.bool d)).setCell ⟨r, 6, none⟩ (.int .i64 (2 + R + D))).setCell ⟨r, 7, none⟩ (.int .i64 R)).setCell ⟨r, 8, none⟩ (.int .i64 D)) at cc'
  clear hr cc
  generalize (((((((((w4.setCell ⟨r, 0, none⟩ (.int .i64 C)).setCell ⟨r, 1, none⟩ (.int .i64 A)).setCell ⟨r, 2, none⟩ (.int .i64 F)).setCell ⟨r, 3, none⟩ (.bool m)).setCell ⟨r, 4, none⟩ (.bool f)).setCell ⟨r, 5, none⟩ (.bool d)).setCell ⟨r, 6, none⟩ (.int .i64 (2 + R + D))).setCell ⟨r, 7, none⟩ (.int .i64 R)).setCell ⟨r, 8, none⟩ (.int .i64 D)) = w5 at *
  have hr := hr'
  have cc := cc'
  clear hr' cc'
  obtain ⟨r0, r1, r2, r3, r4, r5, r6, r7, r8⟩ := hr.cell9
  refine bodyPost_ret (v := .tuple #[(⟨C, A, F, m, f, d, 2 + R + D, R, D⟩ : Th).v, .bool (X == 0)]) (by simp [results, Tryz.results112, go_sem, r0, r1, r2, r3, r4, r5, r6, r7, r8]) rfl ?_
  exact ⟨rfl, cc⟩
theorem me_single {i C A F : Int} {m f d : Bool} (h : C = 0 ∧ m = true) : meT xs cs i C A F m f d = ⟨C, A, F, m, f, d, 1, 0, 0⟩ ∧ meB xs cs i C m = true := by simp [meT, meB, h]
theorem me_off {i C A F : Int} {m f d : Bool} (h : ¬ (C = 0 ∧ m = true)) (h2 : ¬ i + 1 < xs.length) : meT xs cs i C A F m f d = th0 ∧ meB xs cs i C m = false := by simp only [meT, meB, if_neg h, if_neg h2, and_self]
theorem me_gap {i C A F : Int} {m f d : Bool} (h : ¬ (C = 0 ∧ m = true)) (h2 : i + 1 < xs.length) (hC : C = 0) : meT xs cs i C A F m f d = ⟨C, A, F, m, f, d, gw xs (i + 1), 0, 0⟩ ∧ meB xs cs i C m = decide (2 ≤ gw xs (i + 1)) := by simp only [meT, meB, if_neg h, if_pos h2, if_pos hC, and_self]
theorem me_obj {i C A F : Int} {m f d : Bool} (h2 : i + 1 < xs.length) (hC : ¬ C = 0) : meT xs cs i C A F m f d = ⟨C, A, F, m, f, d, 2 + shR (clAt cs C) (gw xs (i + 1)) + shD (clAt cs C) (gw xs (i + 1)), shR (clAt cs C) (gw xs (i + 1)), shD (clAt cs C) (gw xs (i + 1))⟩ ∧ meB xs cs i C m = decide (shX (clAt cs C) (gw xs (i + 1)) = 0) := by
  have h : ¬ (C = 0 ∧ m = true) := fun h => hC h.1
  simp only [meT, meB, if_neg h, if_pos h2, if_neg hC, and_self]
theorem measure_any (h : St w p tp g xs cs) (i C A F : Int) (m f d : Bool) (h0 : 1 ≤ i) (h1 : i < xs.length) :
    Calls Tryz.prog 112 #[stV p tp, .int .i64 i, hdV C A F m f d] w fun e w' => e = .returned (.tuple #[(meT xs cs i C A F m f d).v, .bool (meB xs cs i C m)]) ∧ Grow w w' := by
  by_cases hs : C = 0 ∧ m = true
  · obtain ⟨e1, e2⟩ := me_single (xs := xs) (cs := cs) (i := i) (A := A) (F := F) (f := f) (d := d) hs
    rw [e1, e2]
    obtain ⟨rfl, rfl⟩ := hs
    exact measure_single h i A F f d
  · by_cases h2 : i + 1 < xs.length
    · by_cases hC : C = 0
      · obtain ⟨e1, e2⟩ := me_gap (cs := cs) (A := A) (F := F) (f := f) (d := d) hs h2 hC
        rw [e1, e2]
        subst hC
        obtain rfl : m = false := by simpa using hs
        exact measure_gap h i A F _ f d h0 h2 rfl
      · obtain ⟨e1, e2⟩ := me_obj (cs := cs) (A := A) (F := F) (m := m) (f := f) (d := d) h2 hC
        rw [e1, e2]
        have := measure_obj h i C A F _ _ _ _ m f d h0 h2 hC rfl rfl rfl rfl
        exact this
    · obtain ⟨e1, e2⟩ := me_off (cs := cs) (A := A) (F := F) (f := f) (d := d) hs h2
      rw [e1, e2]
      refine measure_off h i C A F m f d h0 h1 ?_ (by omega)
      by_cases hC : C = 0
      · exact .inr (by simpa [hC] using hs)
      · exact .inl hC
theorem measure_is {i C A F : Int} {m f d b : Bool} {t : Th} (h : St w p tp g xs cs) (h0 : 1 ≤ i) (h1 : i < xs.length) (ht : meT xs cs i C A F m f d = t) (hb : meB xs cs i C m = b) :
    Calls Tryz.prog 112 #[stV p tp, .int .i64 i, hdV C A F m f d] w fun e w' => e = .returned (.tuple #[t.v, .bool b]) ∧ Grow w w' := by
  have h' := measure_any h i C A F m f d h0 h1
  rwa [ht, hb] at h'
end
end Go.Proofs.YtogfjclmohpjkaaGreatDoor.L6
/- What find and object answer; they change nothing but make new memory. Conditions: the address is a number of 64 bits. -/
namespace Go.Proofs.YtogfjclmohpjkaaGreatDoor.L6
open Go.ChangeShapes Go.WideShapes Go.ChangeAt Go.RowKit
open Go.Proofs.YtogfjclmohpjkaaGreatDoor.L1 (Sl Ar ptr exB)
open Go.Proofs.YtogfjclmohpjkaaGreatDoor.L4 (hdV riB wd wdV wdX ofB ofC ofA ofF ofM ofN ofD ofV ofX set6)
open Go.Proofs.YtogfjclmohpjkaaGreatDoor.L5 (Cl clV rtB Tb clAt shX shR shD woV c0 IsCls newX)
set_option linter.unusedVariables false
set_option maxRecDepth 100000

section
variable {w w' : World} {p tp : Option Addr} {g : Nat} {xs ys : List Int} {cs : List Cl}
theorem of_is {n X C A F : Int} {m f d : Bool} (w : World) (hV : ofV n = hdV C A F m f d) (hX : ofX n = X) :
    Calls Tryz.prog 111 #[.int .i64 n] w fun e w' => e = .returned (.tuple #[hdV C A F m f d, .int .i64 X]) ∧ Grow w w' := by
  have h' := L4.of_any n w
  rwa [hV, hX] at h'
theorem fd_no1 {i : Int} (h : oxB xs.length i 1 = false) : fdT xs cs i = th0 ∧ fdX xs cs i = 2 := by simp [fdT, fdX, fdB, h]
theorem fd_no2 {i : Int} (h : oxB xs.length i 1 = true) (h2 : ofB (gw xs i) = false) : fdT xs cs i = th0 ∧ fdX xs cs i = 12 := by simp [fdT, fdX, fdB, h, h2]
theorem fd_no3 {i : Int} (h : oxB xs.length i 1 = true) (h3 : meB xs cs i (ofC (gw xs i)) (ofM (gw xs i)) = false) : fdT xs cs i = th0 ∧ fdX xs cs i = 12 := by simp [fdT, fdX, fdB, h, h3]
theorem fd_no4 {i : Int} (h : oxB xs.length i 1 = true) (h4 : oxB xs.length i (woT xs cs i).w = false) : fdT xs cs i = th0 ∧ fdX xs cs i = 12 := by simp [fdT, fdX, fdB, h, h4]
theorem fd_yes {i : Int} (h : oxB xs.length i 1 = true) (h2 : ofB (gw xs i) = true) (h3 : meB xs cs i (ofC (gw xs i)) (ofM (gw xs i)) = true) (h4 : oxB xs.length i (woT xs cs i).w = true) : fdT xs cs i = woT xs cs i ∧ fdX xs cs i = 0 := by simp [fdT, fdX, fdB, h, h2, h3, h4]

set_option maxHeartbeats 2000000 in
theorem find_any (h : St w p tp g xs cs) (i : Int) (h1 : i ≤ 9223372036854775807) :
    Calls Tryz.prog 86 #[stV p tp, .int .i64 i] w fun e w' => e = .returned (.tuple #[(fdT xs cs i).v, .int .i64 (fdX xs cs i)]) ∧ Grow w w' := by
  have hn := h.n
  have H := hide h
  obtain ⟨hs, hr, cc, fs, fr, n_sr⟩ := boxes2 w 32 [.pointer p, .pointer tp] 128 [.int .i64 0, .int .i64 0, .int .i64 0, .bool false, .bool false, .bool false, .int .i64 0, .int .i64 0, .int .i64 0]
  clear h
  cases hx : oxB xs.length i 1
  · have HE := hide (fd_no1 (cs := cs) hx)
    have HX := hide hx
    clear hx
    go_enter Tryz.func86, Tryz.ntmps86
    go_wp2_with fail
    generalize (w.alloc (.cells #[.pointer p, .pointer tp] 32)).alloc (.cells #[.int .i64 0, .int .i64 0, .int .i64 0, .bool false, .bool false, .bool false, .int .i64 0, .int .i64 0, .int .i64 0] 128) = w3 at *
    generalize w.heap.size + 1 = r at *
    generalize w.heap.size = s at *
    refine (exists_is (H.out.grow cc) h1 HX.out).mono ?_
    rintro e w4 ⟨rfl, c_w4⟩
    replace hs := hs.chg c_w4 id
    replace hr := hr.chg c_w4 id
    replace cc := cc.step c_w4 (fun _ _ h => h.elim)
    clear c_w4 
    obtain ⟨r0, r1, r2, r3, r4, r5, r6, r7, r8⟩ := hr.cell9
    obtain ⟨k0, k1, k2, k3, k4, k5, k6, k7, k8⟩ := hr.frozen9
    go_wp2
    clear r0 r1 r2 r3 r4 r5 r6 r7 r8 k0 k1 k2 k3 k4 k5 k6 k7 k8
    have hr' : Blk (((((((((w4.setCell ⟨r, 0, none⟩ (.int .i64 0)).setCell ⟨r, 1, none⟩ (.int .i64 0)).setCell ⟨r, 2, none⟩ (.int .i64 0)).setCell ⟨r, 3, none⟩ (.bool false)).setCell ⟨r, 4, none⟩ (.bool false)).setCell ⟨r, 5, none⟩ (.bool false)).setCell ⟨r, 6, none⟩ (.int .i64 0)).setCell ⟨r, 7, none⟩ (.int .i64 0)).setCell ⟨r, 8, none⟩ (.int .i64 0)) r 128 [.int .i64 0, .int .i64 0, .int .i64 0, .bool false, .bool false, .bool false, .int .i64 0, .int .i64 0, .int .i64 0] := hr.put9 (.int .i64 0) (.int .i64 0) (.int .i64 0) (.bool false) (.bool false) (.bool false) (.int .i64 0) (.int .i64 0) (.int .i64 0)
    have cc' := fr.put9 cc (.int .i64 0) (.int .i64 0) (.int .i64 0) (.bool false) (.bool false) (.bool false) (.int .i64 0) (.int .i64 0) (.int .i64 0)
    change Grow _ (((((((((w4.setCell ⟨r, 0, none⟩ (.int .i64 0)).setCell ⟨r, 1, none⟩ (.int .i64 0)).setCell ⟨r, 2, none⟩ (.int .i64 0)).setCell ⟨r, 3, none⟩ (.bool false)).setCell ⟨r, 4, none⟩ (.bool false)).setCell ⟨r, 5, none⟩ (.bool false)).setCell ⟨r, 6, none⟩ (.int .i64 0)).setCell ⟨r, 7, none⟩ (.int .i64 0)).setCell ⟨r, 8, none⟩ (.int .i64 0)) at cc'
    clear hr cc
    generalize (((((((((w4.setCell ⟨r, 0, none⟩ (.int .i64 0)).setCell ⟨r, 1, none⟩ (.int .i64 0)).setCell ⟨r, 2, none⟩ (.int .i64 0)).setCell ⟨r, 3, none⟩ (.bool false)).setCell ⟨r, 4, none⟩ (.bool false)).setCell ⟨r, 5, none⟩ (.bool false)).setCell ⟨r, 6, none⟩ (.int .i64 0)).setCell ⟨r, 7, none⟩ (.int .i64 0)).setCell ⟨r, 8, none⟩ (.int .i64 0)) = wz at *
    have hr := hr'
    have cc := cc'
    clear hr' cc'
    obtain ⟨r0, r1, r2, r3, r4, r5, r6, r7, r8⟩ := hr.cell9
    refine bodyPost_ret (v := .tuple #[(⟨0, 0, 0, false, false, false, 0, 0, 0⟩ : Th).v, .int .i64 2]) (by simp [results, Tryz.results86, go_sem, r0, r1, r2, r3, r4, r5, r6, r7, r8]) rfl ?_
    exact ⟨ret_any (by rw [HE.out.1, HE.out.2] <;> rfl), cc⟩
  have hi : 1 ≤ i ∧ i < xs.length := by simp [oxB] at hx; omega
  have HX := hide hx
  have eL : ldB xs i = true := by simp [ldB]; omega
  have HV := hide (show ldV xs i = gw xs i ∧ ldX xs i = 0 by simp [ldV, ldX, eL])
  clear eL
  obtain ⟨W, hW⟩ : ∃ W, gw xs i = W := ⟨_, rfl⟩
  have HW := hide hW
  rw [hW] at HV
  cases ho : ofB W
  · have HE := hide (fd_no2 (cs := cs) hx (by rw [hW]; exact ho))
    have HO := hide (L4.of_no ho)
    clear hx ho hW
    go_enter Tryz.func86, Tryz.ntmps86
    go_wp2_with fail
    generalize (w.alloc (.cells #[.pointer p, .pointer tp] 32)).alloc (.cells #[.int .i64 0, .int .i64 0, .int .i64 0, .bool false, .bool false, .bool false, .int .i64 0, .int .i64 0, .int .i64 0] 128) = w3 at *
    generalize w.heap.size + 1 = r at *
    generalize w.heap.size = s at *
    refine (exists_is (H.out.grow cc) h1 HX.out).mono ?_
    rintro e w4 ⟨rfl, c_w4⟩
    replace hs := hs.chg c_w4 id
    replace hr := hr.chg c_w4 id
    replace cc := cc.step c_w4 (fun _ _ h => h.elim)
    clear c_w4 
    obtain ⟨s0, s1⟩ := hs.cell2
    go_wp2_with fail
    refine (load_is (H.out.grow cc).ar hn h1 HV.out.1 HV.out.2).mono ?_
    rintro e w' ⟨rfl, rfl⟩
    go_wp2_with fail
    refine (of_is _ HO.out.2 HO.out.1).mono ?_
    rintro e w5 ⟨rfl, c_w5⟩
    replace hs := hs.chg c_w5 id
    replace hr := hr.chg c_w5 id
    replace cc := cc.step c_w5 (fun _ _ h => h.elim)
    clear c_w5 
    have hh := Blk.new w5 123 [.int .i64 0, .int .i64 0, .int .i64 0, .bool false, .bool false, .bool false]
    replace hr := hr.alloc (.cells [.int .i64 0, .int .i64 0, .int .i64 0, .bool false, .bool false, .bool false].toArray 123)
    replace cc := cc.alloc (.cells [.int .i64 0, .int .i64 0, .int .i64 0, .bool false, .bool false, .bool false].toArray 123)
    clear s0 s1
    obtain ⟨r0, r1, r2, r3, r4, r5, r6, r7, r8⟩ := hr.cell9
    obtain ⟨k0, k1, k2, k3, k4, k5, k6, k7, k8⟩ := hr.frozen9
    go_wp2
    clear r0 r1 r2 r3 r4 r5 r6 r7 r8 k0 k1 k2 k3 k4 k5 k6 k7 k8
    have hr' : Blk ((((((((((w5.alloc (.cells #[.int .i64 0, .int .i64 0, .int .i64 0, .bool false, .bool false, .bool false] 123)).setCell ⟨r, 0, none⟩ (.int .i64 0)).setCell ⟨r, 1, none⟩ (.int .i64 0)).setCell ⟨r, 2, none⟩ (.int .i64 0)).setCell ⟨r, 3, none⟩ (.bool false)).setCell ⟨r, 4, none⟩ (.bool false)).setCell ⟨r, 5, none⟩ (.bool false)).setCell ⟨r, 6, none⟩ (.int .i64 0)).setCell ⟨r, 7, none⟩ (.int .i64 0)).setCell ⟨r, 8, none⟩ (.int .i64 0)) r 128 [.int .i64 0, .int .i64 0, .int .i64 0, .bool false, .bool false, .bool false, .int .i64 0, .int .i64 0, .int .i64 0] := hr.put9 (.int .i64 0) (.int .i64 0) (.int .i64 0) (.bool false) (.bool false) (.bool false) (.int .i64 0) (.int .i64 0) (.int .i64 0)
    have cc' := fr.put9 cc (.int .i64 0) (.int .i64 0) (.int .i64 0) (.bool false) (.bool false) (.bool false) (.int .i64 0) (.int .i64 0) (.int .i64 0)
    change Grow _ ((((((((((w5.alloc (.cells #[.int .i64 0, .int .i64 0, .int .i64 0, .bool false, .bool false, .bool false] 123)).setCell ⟨r, 0, none⟩ (.int .i64 0)).setCell ⟨r, 1, none⟩ (.int .i64 0)).setCell ⟨r, 2, none⟩ (.int .i64 0)).setCell ⟨r, 3, none⟩ (.bool false)).setCell ⟨r, 4, none⟩ (.bool false)).setCell ⟨r, 5, none⟩ (.bool false)).setCell ⟨r, 6, none⟩ (.int .i64 0)).setCell ⟨r, 7, none⟩ (.int .i64 0)).setCell ⟨r, 8, none⟩ (.int .i64 0)) at cc'
    clear hr cc
    generalize ((((((((((w5.alloc (.cells #[.int .i64 0, .int .i64 0, .int .i64 0, .bool false, .bool false, .bool false] 123)).setCell ⟨r, 0, none⟩ (.int .i64 0)).setCell ⟨r, 1, none⟩ (.int .i64 0)).setCell ⟨r, 2, none⟩ (.int .i64 0)).setCell ⟨r, 3, none⟩ (.bool false)).setCell ⟨r, 4, none⟩ (.bool false)).setCell ⟨r, 5, none⟩ (.bool false)).setCell ⟨r, 6, none⟩ (.int .i64 0)).setCell ⟨r, 7, none⟩ (.int .i64 0)).setCell ⟨r, 8, none⟩ (.int .i64 0)) = wz at *
    have hr := hr'
    have cc := cc'
    clear hr' cc'
    obtain ⟨r0, r1, r2, r3, r4, r5, r6, r7, r8⟩ := hr.cell9
    refine bodyPost_ret (v := .tuple #[(⟨0, 0, 0, false, false, false, 0, 0, 0⟩ : Th).v, .int .i64 12]) (by simp [results, Tryz.results86, go_sem, r0, r1, r2, r3, r4, r5, r6, r7, r8]) rfl ?_
    exact ⟨ret_any (by rw [HE.out.1, HE.out.2] <;> rfl), cc⟩
  have HO := hide (show ofX W = 0 ∧ ofV W = hdV (ofC W) (ofA W) (ofF W) (ofM W) (ofN W) (ofD W) from ⟨(L4.of_yes ho).1, rfl⟩)
  have hwt : woT xs cs i = meT xs cs i (ofC W) (ofA W) (ofF W) (ofM W) (ofN W) (ofD W) := by unfold woT; rw [hW]
  obtain ⟨C, hC⟩ : ∃ C, ofC W = C := ⟨_, rfl⟩
  obtain ⟨A, hA⟩ : ∃ A, ofA W = A := ⟨_, rfl⟩
  obtain ⟨F, hF⟩ : ∃ F, ofF W = F := ⟨_, rfl⟩
  obtain ⟨m, hm⟩ : ∃ m, ofM W = m := ⟨_, rfl⟩
  obtain ⟨f, hf⟩ : ∃ f, ofN W = f := ⟨_, rfl⟩
  obtain ⟨d, hd⟩ : ∃ d, ofD W = d := ⟨_, rfl⟩
  have hcm : ofC (gw xs i) = C ∧ ofM (gw xs i) = m := by rw [hW]; exact ⟨hC, hm⟩
  rw [hC, hA, hF, hm, hf, hd] at HO hwt
  clear hC hA hF hm hf hd
  obtain ⟨T, hT⟩ : ∃ T, meT xs cs i C A F m f d = T := ⟨_, rfl⟩
  rw [hT] at hwt
  have HT := hide hT
  clear hT
  have how : ofB (gw xs i) = true := by rw [hW]; exact ho
  clear ho hW
  cases hb : meB xs cs i C m
  · have HB := hide hb
    have HE := hide (fd_no3 hx (by rw [hcm.1, hcm.2]; exact hb))
    obtain ⟨TC, TA, TF, Tm, Tf, Td, TW, TR, TD⟩ := T
    clear hx hb hwt how hcm
    go_enter Tryz.func86, Tryz.ntmps86
    go_wp2_with fail
    generalize (w.alloc (.cells #[.pointer p, .pointer tp] 32)).alloc (.cells #[.int .i64 0, .int .i64 0, .int .i64 0, .bool false, .bool false, .bool false, .int .i64 0, .int .i64 0, .int .i64 0] 128) = w3 at *
    generalize w.heap.size + 1 = r at *
    generalize w.heap.size = s at *
    refine (exists_is (H.out.grow cc) h1 HX.out).mono ?_
    rintro e w4 ⟨rfl, c_w4⟩
    replace hs := hs.chg c_w4 id
    replace hr := hr.chg c_w4 id
    replace cc := cc.step c_w4 (fun _ _ h => h.elim)
    clear c_w4 
    obtain ⟨s0, s1⟩ := hs.cell2
    go_wp2_with fail
    refine (load_is (H.out.grow cc).ar hn h1 HV.out.1 HV.out.2).mono ?_
    rintro e w' ⟨rfl, rfl⟩
    go_wp2_with fail
    clear s0 s1
    refine (of_is _ HO.out.2 HO.out.1).mono ?_
    rintro e w5 ⟨rfl, c_w5⟩
    replace hs := hs.chg c_w5 id
    replace hr := hr.chg c_w5 id
    replace cc := cc.step c_w5 (fun _ _ h => h.elim)
    clear c_w5 
    have hh := Blk.new w5 123 [.int .i64 C, .int .i64 A, .int .i64 F, .bool m, .bool f, .bool d]
    replace hs := hs.alloc (.cells [.int .i64 C, .int .i64 A, .int .i64 F, .bool m, .bool f, .bool d].toArray 123)
    replace hr := hr.alloc (.cells [.int .i64 C, .int .i64 A, .int .i64 F, .bool m, .bool f, .bool d].toArray 123)
    replace cc := cc.alloc (.cells [.int .i64 C, .int .i64 A, .int .i64 F, .bool m, .bool f, .bool d].toArray 123)
    obtain ⟨s0, s1⟩ := hs.cell2
    obtain ⟨b0, b1, b2, b3, b4, b5⟩ := hh.cell6
    go_wp2_with fail
    clear s0 s1 b0 b1 b2 b3 b4 b5
    refine (measure_is (H.out.grow cc) hi.1 hi.2 HT.out HB.out).mono ?_
    rintro e w6 ⟨rfl, c_w6⟩
    replace hs := hs.chg c_w6 id
    replace hr := hr.chg c_w6 id
    replace hh := hh.chg c_w6 id
    replace cc := cc.step c_w6 (fun _ _ h => h.elim)
    clear c_w6 
    have ht := Blk.new w6 128 [.int .i64 TC, .int .i64 TA, .int .i64 TF, .bool Tm, .bool Tf, .bool Td, .int .i64 TW, .int .i64 TR, .int .i64 TD]
    replace hs := hs.alloc (.cells [.int .i64 TC, .int .i64 TA, .int .i64 TF, .bool Tm, .bool Tf, .bool Td, .int .i64 TW, .int .i64 TR, .int .i64 TD].toArray 128)
    replace hr := hr.alloc (.cells [.int .i64 TC, .int .i64 TA, .int .i64 TF, .bool Tm, .bool Tf, .bool Td, .int .i64 TW, .int .i64 TR, .int .i64 TD].toArray 128)
    replace hh := hh.alloc (.cells [.int .i64 TC, .int .i64 TA, .int .i64 TF, .bool Tm, .bool Tf, .bool Td, .int .i64 TW, .int .i64 TR, .int .i64 TD].toArray 128)
    replace cc := cc.alloc (.cells [.int .i64 TC, .int .i64 TA, .int .i64 TF, .bool Tm, .bool Tf, .bool Td, .int .i64 TW, .int .i64 TR, .int .i64 TD].toArray 128)
    obtain ⟨s0, s1⟩ := hs.cell2
    obtain ⟨b0, b1, b2, b3, b4, b5⟩ := hh.cell6
    clear s0 s1 b0 b1 b2 b3 b4 b5
    obtain ⟨r0, r1, r2, r3, r4, r5, r6, r7, r8⟩ := hr.cell9
    obtain ⟨k0, k1, k2, k3, k4, k5, k6, k7, k8⟩ := hr.frozen9
    go_wp2
    clear r0 r1 r2 r3 r4 r5 r6 r7 r8 k0 k1 k2 k3 k4 k5 k6 k7 k8
    have hr' : Blk ((((((((((w6.alloc (.cells #[.int .i64 TC, .int .i64 TA, .int .i64 TF, .bool Tm, .bool Tf, .bool Td, .int .i64 TW, .int .i64 TR, .int .i64 TD] 128)).setCell ⟨r, 0, none⟩ (.int .i64 0)).setCell ⟨r, 1, none⟩ (.int .i64 0)).setCell ⟨r, 2, none⟩ (.int .i64 0)).setCell ⟨r, 3, none⟩ (.bool false)).setCell ⟨r, 4, none⟩ (.bool false)).setCell ⟨r, 5, none⟩ (.bool false)).setCell ⟨r, 6, none⟩ (.int .i64 0)).setCell ⟨r, 7, none⟩ (.int .i64 0)).setCell ⟨r, 8, none⟩ (.int .i64 0)) r 128 [.int .i64 0, .int .i64 0, .int .i64 0, .bool false, .bool false, .bool false, .int .i64 0, .int .i64 0, .int .i64 0] := hr.put9 (.int .i64 0) (.int .i64 0) (.int .i64 0) (.bool false) (.bool false) (.bool false) (.int .i64 0) (.int .i64 0) (.int .i64 0)
    have cc' := fr.put9 cc (.int .i64 0) (.int .i64 0) (.int .i64 0) (.bool false) (.bool false) (.bool false) (.int .i64 0) (.int .i64 0) (.int .i64 0)
    change Grow _ ((((((((((w6.alloc (.cells #[.int .i64 TC, .int .i64 TA, .int .i64 TF, .bool Tm, .bool Tf, .bool Td, .int .i64 TW, .int .i64 TR, .int .i64 TD] 128)).setCell ⟨r, 0, none⟩ (.int .i64 0)).setCell ⟨r, 1, none⟩ (.int .i64 0)).setCell ⟨r, 2, none⟩ (.int .i64 0)).setCell ⟨r, 3, none⟩ (.bool false)).setCell ⟨r, 4, none⟩ (.bool false)).setCell ⟨r, 5, none⟩ (.bool false)).setCell ⟨r, 6, none⟩ (.int .i64 0)).setCell ⟨r, 7, none⟩ (.int .i64 0)).setCell ⟨r, 8, none⟩ (.int .i64 0)) at cc'
    clear hr cc
    generalize ((((((((((w6.alloc (.cells #[.int .i64 TC, .int .i64 TA, .int .i64 TF, .bool Tm, .bool Tf, .bool Td, .int .i64 TW, .int .i64 TR, .int .i64 TD] 128)).setCell ⟨r, 0, none⟩ (.int .i64 0)).setCell ⟨r, 1, none⟩ (.int .i64 0)).setCell ⟨r, 2, none⟩ (.int .i64 0)).setCell ⟨r, 3, none⟩ (.bool false)).setCell ⟨r, 4, none⟩ (.bool false)).setCell ⟨r, 5, none⟩ (.bool false)).setCell ⟨r, 6, none⟩ (.int .i64 0)).setCell ⟨r, 7, none⟩ (.int .i64 0)).setCell ⟨r, 8, none⟩ (.int .i64 0)) = wz at *
    have hr := hr'
    have cc := cc'
    clear hr' cc'
    obtain ⟨r0, r1, r2, r3, r4, r5, r6, r7, r8⟩ := hr.cell9
    refine bodyPost_ret (v := .tuple #[(⟨0, 0, 0, false, false, false, 0, 0, 0⟩ : Th).v, .int .i64 12]) (by simp [results, Tryz.results86, go_sem, r0, r1, r2, r3, r4, r5, r6, r7, r8]) rfl ?_
    exact ⟨ret_any (by rw [HE.out.1, HE.out.2] <;> rfl), cc⟩
  have HB := hide hb
  cases hy : oxB xs.length i T.w
  · have HE := hide (fd_no4 (cs := cs) hx (by rw [hwt]; exact hy))
    have HY := hide hy
    obtain ⟨TC, TA, TF, Tm, Tf, Td, TW, TR, TD⟩ := T
    clear hx hb hwt how hcm hy
    dsimp only at HY
    go_enter Tryz.func86, Tryz.ntmps86
    go_wp2_with fail
    generalize (w.alloc (.cells #[.pointer p, .pointer tp] 32)).alloc (.cells #[.int .i64 0, .int .i64 0, .int .i64 0, .bool false, .bool false, .bool false, .int .i64 0, .int .i64 0, .int .i64 0] 128) = w3 at *
    generalize w.heap.size + 1 = r at *
    generalize w.heap.size = s at *
    refine (exists_is (H.out.grow cc) h1 HX.out).mono ?_
    rintro e w4 ⟨rfl, c_w4⟩
    replace hs := hs.chg c_w4 id
    replace hr := hr.chg c_w4 id
    replace cc := cc.step c_w4 (fun _ _ h => h.elim)
    clear c_w4 
    obtain ⟨s0, s1⟩ := hs.cell2
    go_wp2_with fail
    refine (load_is (H.out.grow cc).ar hn h1 HV.out.1 HV.out.2).mono ?_
    rintro e w' ⟨rfl, rfl⟩
    go_wp2_with fail
    clear s0 s1
    refine (of_is _ HO.out.2 HO.out.1).mono ?_
    rintro e w5 ⟨rfl, c_w5⟩
    replace hs := hs.chg c_w5 id
    replace hr := hr.chg c_w5 id
    replace cc := cc.step c_w5 (fun _ _ h => h.elim)
    clear c_w5 
    have hh := Blk.new w5 123 [.int .i64 C, .int .i64 A, .int .i64 F, .bool m, .bool f, .bool d]
    replace hs := hs.alloc (.cells [.int .i64 C, .int .i64 A, .int .i64 F, .bool m, .bool f, .bool d].toArray 123)
    replace hr := hr.alloc (.cells [.int .i64 C, .int .i64 A, .int .i64 F, .bool m, .bool f, .bool d].toArray 123)
    replace cc := cc.alloc (.cells [.int .i64 C, .int .i64 A, .int .i64 F, .bool m, .bool f, .bool d].toArray 123)
    obtain ⟨s0, s1⟩ := hs.cell2
    obtain ⟨b0, b1, b2, b3, b4, b5⟩ := hh.cell6
    go_wp2_with fail
    clear s0 s1 b0 b1 b2 b3 b4 b5
    refine (measure_is (H.out.grow cc) hi.1 hi.2 HT.out HB.out).mono ?_
    rintro e w6 ⟨rfl, c_w6⟩
    replace hs := hs.chg c_w6 id
    replace hr := hr.chg c_w6 id
    replace hh := hh.chg c_w6 id
    replace cc := cc.step c_w6 (fun _ _ h => h.elim)
    clear c_w6 
    have ht := Blk.new w6 128 [.int .i64 TC, .int .i64 TA, .int .i64 TF, .bool Tm, .bool Tf, .bool Td, .int .i64 TW, .int .i64 TR, .int .i64 TD]
    replace hs := hs.alloc (.cells [.int .i64 TC, .int .i64 TA, .int .i64 TF, .bool Tm, .bool Tf, .bool Td, .int .i64 TW, .int .i64 TR, .int .i64 TD].toArray 128)
    replace hr := hr.alloc (.cells [.int .i64 TC, .int .i64 TA, .int .i64 TF, .bool Tm, .bool Tf, .bool Td, .int .i64 TW, .int .i64 TR, .int .i64 TD].toArray 128)
    replace hh := hh.alloc (.cells [.int .i64 TC, .int .i64 TA, .int .i64 TF, .bool Tm, .bool Tf, .bool Td, .int .i64 TW, .int .i64 TR, .int .i64 TD].toArray 128)
    replace cc := cc.alloc (.cells [.int .i64 TC, .int .i64 TA, .int .i64 TF, .bool Tm, .bool Tf, .bool Td, .int .i64 TW, .int .i64 TR, .int .i64 TD].toArray 128)
    obtain ⟨s0, s1⟩ := hs.cell2
    obtain ⟨b0, b1, b2, b3, b4, b5⟩ := hh.cell6
    obtain ⟨x0, x1, x2, x3, x4, x5, x6, x7, x8⟩ := ht.cell9
    go_wp2_with fail
    clear s0 s1 b0 b1 b2 b3 b4 b5 x0 x1 x2 x3 x4 x5 x6 x7 x8
    refine (exists_is (H.out.grow cc) h1 HY.out).mono ?_
    rintro e w8 ⟨rfl, c_w8⟩
    replace hs := hs.chg c_w8 id
    replace hr := hr.chg c_w8 id
    replace ht := ht.chg c_w8 id
    replace cc := cc.step c_w8 (fun _ _ h => h.elim)
    clear c_w8 
    obtain ⟨x0, x1, x2, x3, x4, x5, x6, x7, x8⟩ := ht.cell9
    clear x0 x1 x2 x3 x4 x5 x6 x7 x8
    obtain ⟨r0, r1, r2, r3, r4, r5, r6, r7, r8⟩ := hr.cell9
    obtain ⟨k0, k1, k2, k3, k4, k5, k6, k7, k8⟩ := hr.frozen9
    go_wp2
    clear r0 r1 r2 r3 r4 r5 r6 r7 r8 k0 k1 k2 k3 k4 k5 k6 k7 k8
    have hr' : Blk (((((((((w8.setCell ⟨r, 0, none⟩ (.int .i64 0)).setCell ⟨r, 1, none⟩ (.int .i64 0)).setCell ⟨r, 2, none⟩ (.int .i64 0)).setCell ⟨r, 3, none⟩ (.bool false)).setCell ⟨r, 4, none⟩ (.bool false)).setCell ⟨r, 5, none⟩ (.bool false)).setCell ⟨r, 6, none⟩ (.int .i64 0)).setCell ⟨r, 7, none⟩ (.int .i64 0)).setCell ⟨r, 8, none⟩ (.int .i64 0)) r 128 [.int .i64 0, .int .i64 0, .int .i64 0, .bool false, .bool false, .bool false, .int .i64 0, .int .i64 0, .int .i64 0] := hr.put9 (.int .i64 0) (.int .i64 0) (.int .i64 0) (.bool false) (.bool false) (.bool false) (.int .i64 0) (.int .i64 0) (.int .i64 0)
    have cc' := fr.put9 cc (.int .i64 0) (.int .i64 0) (.int .i64 0) (.bool false) (.bool false) (.bool false) (.int .i64 0) (.int .i64 0) (.int .i64 0)
    change Grow _ (((((((((w8.setCell ⟨r, 0, none⟩ (.int .i64 0)).setCell ⟨r, 1, none⟩ (.int .i64 0)).setCell ⟨r, 2, none⟩ (.int .i64 0)).setCell ⟨r, 3, none⟩ (.bool false)).setCell ⟨r, 4, none⟩ (.bool false)).setCell ⟨r, 5, none⟩ (.bool false)).setCell ⟨r, 6, none⟩ (.int .i64 0)).setCell ⟨r, 7, none⟩ (.int .i64 0)).setCell ⟨r, 8, none⟩ (.int .i64 0)) at cc'
    clear hr cc
    generalize (((((((((w8.setCell ⟨r, 0, none⟩ (.int .i64 0)).setCell ⟨r, 1, none⟩ (.int .i64 0)).setCell ⟨r, 2, none⟩ (.int .i64 0)).setCell ⟨r, 3, none⟩ (.bool false)).setCell ⟨r, 4, none⟩ (.bool false)).setCell ⟨r, 5, none⟩ (.bool false)).setCell ⟨r, 6, none⟩ (.int .i64 0)).setCell ⟨r, 7, none⟩ (.int .i64 0)).setCell ⟨r, 8, none⟩ (.int .i64 0)) = wz at *
    have hr := hr'
    have cc := cc'
    clear hr' cc'
    obtain ⟨r0, r1, r2, r3, r4, r5, r6, r7, r8⟩ := hr.cell9
    refine bodyPost_ret (v := .tuple #[(⟨0, 0, 0, false, false, false, 0, 0, 0⟩ : Th).v, .int .i64 12]) (by simp [results, Tryz.results86, go_sem, r0, r1, r2, r3, r4, r5, r6, r7, r8]) rfl ?_
    exact ⟨ret_any (by rw [HE.out.1, HE.out.2] <;> rfl), cc⟩
  · have HE := hide (fd_yes hx how (by rw [hcm.1, hcm.2]; exact hb) (by rw [hwt]; exact hy))
    rw [hwt] at HE
    have HY := hide hy
    obtain ⟨TC, TA, TF, Tm, Tf, Td, TW, TR, TD⟩ := T
    clear hx hb hwt how hcm hy
    dsimp only at HY
    go_enter Tryz.func86, Tryz.ntmps86
    go_wp2_with fail
    generalize (w.alloc (.cells #[.pointer p, .pointer tp] 32)).alloc (.cells #[.int .i64 0, .int .i64 0, .int .i64 0, .bool false, .bool false, .bool false, .int .i64 0, .int .i64 0, .int .i64 0] 128) = w3 at *
    generalize w.heap.size + 1 = r at *
    generalize w.heap.size = s at *
    refine (exists_is (H.out.grow cc) h1 HX.out).mono ?_
    rintro e w4 ⟨rfl, c_w4⟩
    replace hs := hs.chg c_w4 id
    replace hr := hr.chg c_w4 id
    replace cc := cc.step c_w4 (fun _ _ h => h.elim)
    clear c_w4 
    obtain ⟨s0, s1⟩ := hs.cell2
    go_wp2_with fail
    refine (load_is (H.out.grow cc).ar hn h1 HV.out.1 HV.out.2).mono ?_
    rintro e w' ⟨rfl, rfl⟩
    go_wp2_with fail
    clear s0 s1
    refine (of_is _ HO.out.2 HO.out.1).mono ?_
    rintro e w5 ⟨rfl, c_w5⟩
    replace hs := hs.chg c_w5 id
    replace hr := hr.chg c_w5 id
    replace cc := cc.step c_w5 (fun _ _ h => h.elim)
    clear c_w5 
    have hh := Blk.new w5 123 [.int .i64 C, .int .i64 A, .int .i64 F, .bool m, .bool f, .bool d]
    replace hs := hs.alloc (.cells [.int .i64 C, .int .i64 A, .int .i64 F, .bool m, .bool f, .bool d].toArray 123)
    replace hr := hr.alloc (.cells [.int .i64 C, .int .i64 A, .int .i64 F, .bool m, .bool f, .bool d].toArray 123)
    replace cc := cc.alloc (.cells [.int .i64 C, .int .i64 A, .int .i64 F, .bool m, .bool f, .bool d].toArray 123)
    obtain ⟨s0, s1⟩ := hs.cell2
    obtain ⟨b0, b1, b2, b3, b4, b5⟩ := hh.cell6
    go_wp2_with fail
    clear s0 s1 b0 b1 b2 b3 b4 b5
    refine (measure_is (H.out.grow cc) hi.1 hi.2 HT.out HB.out).mono ?_
    rintro e w6 ⟨rfl, c_w6⟩
    replace hs := hs.chg c_w6 id
    replace hr := hr.chg c_w6 id
    replace hh := hh.chg c_w6 id
    replace cc := cc.step c_w6 (fun _ _ h => h.elim)
    clear c_w6 
    have ht := Blk.new w6 128 [.int .i64 TC, .int .i64 TA, .int .i64 TF, .bool Tm, .bool Tf, .bool Td, .int .i64 TW, .int .i64 TR, .int .i64 TD]
    replace hs := hs.alloc (.cells [.int .i64 TC, .int .i64 TA, .int .i64 TF, .bool Tm, .bool Tf, .bool Td, .int .i64 TW, .int .i64 TR, .int .i64 TD].toArray 128)
    replace hr := hr.alloc (.cells [.int .i64 TC, .int .i64 TA, .int .i64 TF, .bool Tm, .bool Tf, .bool Td, .int .i64 TW, .int .i64 TR, .int .i64 TD].toArray 128)
    replace hh := hh.alloc (.cells [.int .i64 TC, .int .i64 TA, .int .i64 TF, .bool Tm, .bool Tf, .bool Td, .int .i64 TW, .int .i64 TR, .int .i64 TD].toArray 128)
    replace cc := cc.alloc (.cells [.int .i64 TC, .int .i64 TA, .int .i64 TF, .bool Tm, .bool Tf, .bool Td, .int .i64 TW, .int .i64 TR, .int .i64 TD].toArray 128)
    obtain ⟨s0, s1⟩ := hs.cell2
    obtain ⟨b0, b1, b2, b3, b4, b5⟩ := hh.cell6
    obtain ⟨x0, x1, x2, x3, x4, x5, x6, x7, x8⟩ := ht.cell9
    go_wp2_with fail
    clear s0 s1 b0 b1 b2 b3 b4 b5 x0 x1 x2 x3 x4 x5 x6 x7 x8
    refine (exists_is (H.out.grow cc) h1 HY.out).mono ?_
    rintro e w8 ⟨rfl, c_w8⟩
    replace hs := hs.chg c_w8 id
    replace hr := hr.chg c_w8 id
    replace ht := ht.chg c_w8 id
    replace cc := cc.step c_w8 (fun _ _ h => h.elim)
    clear c_w8 
    obtain ⟨x0, x1, x2, x3, x4, x5, x6, x7, x8⟩ := ht.cell9
    obtain ⟨r0, r1, r2, r3, r4, r5, r6, r7, r8⟩ := hr.cell9
    obtain ⟨k0, k1, k2, k3, k4, k5, k6, k7, k8⟩ := hr.frozen9
    go_wp2
    clear r0 r1 r2 r3 r4 r5 r6 r7 r8 k0 k1 k2 k3 k4 k5 k6 k7 k8
    have hr' : Blk (((((((((w8.setCell ⟨r, 0, none⟩ (.int .i64 TC)).setCell ⟨r, 1, none⟩ (.int .i64 TA)).setCell ⟨r, 2, none⟩ (.int .i64 TF)).setCell ⟨r, 3, none⟩ (.bool Tm)).setCell ⟨r, 4, none⟩ (.bool Tf)).setCell ⟨r, 5, none⟩ (.bool Td)).setCell ⟨r, 6, none⟩ (.int .i64 TW)).setCell ⟨r, 7, none⟩ (.int .i64 TR)).setCell ⟨r, 8, none⟩ (.int .i64 TD)) r 128 [.int .i64 TC, .int .i64 TA, .int .i64 TF, .bool Tm, .bool Tf, .bool Td, .int .i64 TW, .int .i64 TR, .int .i64 TD] := hr.put9 (.int .i64 TC) (.int .i64 TA) (.int .i64 TF) (.bool Tm) (.bool Tf) (.bool Td) (.int .i64 TW) (.int .i64 TR) (.int .i64 TD)
    have cc' := fr.put9 cc (.int .i64 TC) (.int .i64 TA) (.int .i64 TF) (.bool Tm) (.bool Tf) (.bool Td) (.int .i64 TW) (.int .i64 TR) (.int .i64 TD)
    change Grow _ (((((((((w8.setCell ⟨r, 0, none⟩ (.int .i64 TC)).setCell ⟨r, 1, none⟩ (.int .i64 TA)).setCell ⟨r, 2, none⟩ (.int .i64 TF)).setCell ⟨r, 3, none⟩ (.bool Tm)).setCell ⟨r, 4, none⟩ (.bool Tf)).setCell ⟨r, 5, none⟩ (.bool Td)).setCell ⟨r, 6, none⟩ (.int .i64 TW)).setCell ⟨r, 7, none⟩ (.int .i64 TR)).setCell ⟨r, 8, none⟩ (.int .i64 TD)) at cc'
    clear hr cc
    generalize (((((((((w8.setCell ⟨r, 0, none⟩ (.int .i64 TC)).setCell ⟨r, 1, none⟩ (.int .i64 TA)).setCell ⟨r, 2, none⟩ (.int .i64 TF)).setCell ⟨r, 3, none⟩ (.bool Tm)).setCell ⟨r, 4, none⟩ (.bool Tf)).setCell ⟨r, 5, none⟩ (.bool Td)).setCell ⟨r, 6, none⟩ (.int .i64 TW)).setCell ⟨r, 7, none⟩ (.int .i64 TR)).setCell ⟨r, 8, none⟩ (.int .i64 TD)) = wz at *
    have hr := hr'
    have cc := cc'
    clear hr' cc'
    obtain ⟨r0, r1, r2, r3, r4, r5, r6, r7, r8⟩ := hr.cell9
    refine bodyPost_ret (v := .tuple #[(⟨TC, TA, TF, Tm, Tf, Td, TW, TR, TD⟩ : Th).v, .int .i64 0]) (by simp [results, Tryz.results86, go_sem, r0, r1, r2, r3, r4, r5, r6, r7, r8]) rfl ?_
    exact ⟨ret_any (by rw [HE.out.1, HE.out.2] <;> rfl), cc⟩
theorem find_is {i X : Int} {t : Th} (h : St w p tp g xs cs) (h1 : i ≤ 9223372036854775807) (hT : fdT xs cs i = t) (hX : fdX xs cs i = X) :
    Calls Tryz.prog 86 #[stV p tp, .int .i64 i] w fun e w' => e = .returned (.tuple #[t.v, .int .i64 X]) ∧ Grow w w' := by
  have h' := find_any h i h1
  rwa [hT, hX] at h'
end
end Go.Proofs.YtogfjclmohpjkaaGreatDoor.L6
/- What object, Size, Shape and Head answer; they change nothing but make new memory. Conditions: the address is a number of 64 bits. -/
namespace Go.Proofs.YtogfjclmohpjkaaGreatDoor.L6
open Go.ChangeShapes Go.WideShapes Go.ChangeAt Go.RowKit
open Go.Proofs.YtogfjclmohpjkaaGreatDoor.L1 (Sl Ar ptr exB)
open Go.Proofs.YtogfjclmohpjkaaGreatDoor.L4 (hdV riB wd wdV wdX ofB ofC ofA ofF ofM ofN ofD ofV ofX set6)
open Go.Proofs.YtogfjclmohpjkaaGreatDoor.L5 (Cl clV rtB Tb clAt shX shR shD woV c0 IsCls newX)
set_option linter.unusedVariables false
set_option maxRecDepth 100000

section
variable {w w' : World} {p tp : Option Addr} {g : Nat} {xs ys : List Int} {cs : List Cl}
set_option maxHeartbeats 400000 in
theorem isobj_any (t : Th) (w : World) :
    Calls Tryz.prog 87 #[t.v] w fun e w' => e = .returned (.bool (t.C != 0)) ∧ Grow w w' := by
  obtain ⟨C, A, F, m, f, d, W, R, D⟩ := t
  go_enter Tryz.func87, Tryz.ntmps87
  go_wp2
  go_ret
  exact ⟨rfl, Grow.box _ _⟩
theorem isobj_at (C A F : Int) (m f d : Bool) (W R D : Int) (w : World) :
    Calls Tryz.prog 87 #[.agg #[.int .i64 C, .int .i64 A, .int .i64 F, .bool m, .bool f, .bool d, .int .i64 W, .int .i64 R, .int .i64 D]] w fun e w' => e = .returned (.bool (C != 0)) ∧ Grow w w' :=
  isobj_any ⟨C, A, F, m, f, d, W, R, D⟩ w
theorem isobj_is {t : Th} {b : Bool} (w : World) (h : (t.C != 0) = b) :
    Calls Tryz.prog 87 #[t.v] w fun e w' => e = .returned (.bool b) ∧ Grow w w' := by
  have h' := isobj_any t w
  rwa [h] at h'
theorem fd_th0 {i : Int} (h : ¬ fdX xs cs i = 0) : fdT xs cs i = th0 := by
  unfold fdX at h
  split at h
  · split at h
    · exact absurd rfl h
    · rename_i hb
      simp [fdT, hb]
  · rename_i hb
    simp [fdT, fdB, hb]
theorem ob_no {i : Int} (h : ¬ fdX xs cs i = 0) : obT xs cs i = th0 ∧ obX xs cs i = fdX xs cs i := by
  have e : obX xs cs i = fdX xs cs i := by simp [obX, h]
  exact ⟨by simp [obT, e, h], e⟩
theorem ob_gap {i : Int} (h : fdX xs cs i = 0) (hc : (fdT xs cs i).C = 0) : obT xs cs i = th0 ∧ obX xs cs i = 5 := by
  have e : obX xs cs i = 5 := by simp [obX, h, hc]
  exact ⟨by simp [obT, e], e⟩
theorem ob_yes {i : Int} (h : fdX xs cs i = 0) (hc : ¬ (fdT xs cs i).C = 0) : obT xs cs i = fdT xs cs i ∧ obX xs cs i = 0 := by
  have e : obX xs cs i = 0 := by simp [obX, h, hc]
  exact ⟨by simp [obT, e], e⟩

set_option maxHeartbeats 1000000 in
theorem object_any (h : St w p tp g xs cs) (i : Int) (h1 : i ≤ 9223372036854775807) :
    Calls Tryz.prog 66 #[stV p tp, .int .i64 i] w fun e w' => e = .returned (.tuple #[(obT xs cs i).v, .int .i64 (obX xs cs i)]) ∧ Grow w w' := by
  have H := hide h
  clear h
  by_cases hx : fdX xs cs i = 0
  rotate_left
  · have HE := hide (ob_no hx)
    obtain ⟨X, hX⟩ : ∃ X, fdX xs cs i = X := ⟨_, rfl⟩
    have HT : Hid (fdT xs cs i = ⟨0, 0, 0, false, false, false, 0, 0, 0⟩) := hide (fd_th0 hx)
    rw [hX] at hx HE
    have HX := hide hX
    have hx' : (X != 0) = true := by simpa using hx
    clear hX
    obtain ⟨hs, hr, cc, fs, fr, n_sr⟩ := boxes2 w 32 [.pointer p, .pointer tp] 128 [.int .i64 0, .int .i64 0, .int .i64 0, .bool false, .bool false, .bool false, .int .i64 0, .int .i64 0, .int .i64 0]
    go_enter Tryz.func66, Tryz.ntmps66
    go_wp2_with fail
    generalize (w.alloc (.cells #[.pointer p, .pointer tp] 32)).alloc (.cells #[.int .i64 0, .int .i64 0, .int .i64 0, .bool false, .bool false, .bool false, .int .i64 0, .int .i64 0, .int .i64 0] 128) = w3 at *
    generalize w.heap.size + 1 = r at *
    generalize w.heap.size = s at *
    refine (find_is (H.out.grow cc) h1 HT.out HX.out).mono ?_
    rintro e w4 ⟨rfl, c_w4⟩
    replace hs := hs.chg c_w4 id
    replace hr := hr.chg c_w4 id
    replace cc := cc.step c_w4 (fun _ _ h => h.elim)
    clear c_w4 
    have ht := Blk.new w4 128 [.int .i64 0, .int .i64 0, .int .i64 0, .bool false, .bool false, .bool false, .int .i64 0, .int .i64 0, .int .i64 0]
    replace hs := hs.alloc (.cells [.int .i64 0, .int .i64 0, .int .i64 0, .bool false, .bool false, .bool false, .int .i64 0, .int .i64 0, .int .i64 0].toArray 128)
    replace hr := hr.alloc (.cells [.int .i64 0, .int .i64 0, .int .i64 0, .bool false, .bool false, .bool false, .int .i64 0, .int .i64 0, .int .i64 0].toArray 128)
    replace cc := cc.alloc (.cells [.int .i64 0, .int .i64 0, .int .i64 0, .bool false, .bool false, .bool false, .int .i64 0, .int .i64 0, .int .i64 0].toArray 128)
    obtain ⟨x0, x1, x2, x3, x4, x5, x6, x7, x8⟩ := ht.cell9
    clear x0 x1 x2 x3 x4 x5 x6 x7 x8
    obtain ⟨r0, r1, r2, r3, r4, r5, r6, r7, r8⟩ := hr.cell9
    obtain ⟨k0, k1, k2, k3, k4, k5, k6, k7, k8⟩ := hr.frozen9
    go_wp2
    clear r0 r1 r2 r3 r4 r5 r6 r7 r8 k0 k1 k2 k3 k4 k5 k6 k7 k8
    have hr' : Blk ((((((((((w4.alloc (.cells #[.int .i64 0, .int .i64 0, .int .i64 0, .bool false, .bool false, .bool false, .int .i64 0, .int .i64 0, .int .i64 0] 128)).setCell ⟨r, 0, none⟩ (.int .i64 0)).setCell ⟨r, 1, none⟩ (.int .i64 0)).setCell ⟨r, 2, none⟩ (.int .i64 0)).setCell ⟨r, 3, none⟩ (.bool false)).setCell ⟨r, 4, none⟩ (.bool false)).setCell ⟨r, 5, none⟩ (.bool false)).setCell ⟨r, 6, none⟩ (.int .i64 0)).setCell ⟨r, 7, none⟩ (.int .i64 0)).setCell ⟨r, 8, none⟩ (.int .i64 0)) r 128 [.int .i64 0, .int .i64 0, .int .i64 0, .bool false, .bool false, .bool false, .int .i64 0, .int .i64 0, .int .i64 0] := hr.put9 (.int .i64 0) (.int .i64 0) (.int .i64 0) (.bool false) (.bool false) (.bool false) (.int .i64 0) (.int .i64 0) (.int .i64 0)
    have cc' := fr.put9 cc (.int .i64 0) (.int .i64 0) (.int .i64 0) (.bool false) (.bool false) (.bool false) (.int .i64 0) (.int .i64 0) (.int .i64 0)
    change Grow _ ((((((((((w4.alloc (.cells #[.int .i64 0, .int .i64 0, .int .i64 0, .bool false, .bool false, .bool false, .int .i64 0, .int .i64 0, .int .i64 0] 128)).setCell ⟨r, 0, none⟩ (.int .i64 0)).setCell ⟨r, 1, none⟩ (.int .i64 0)).setCell ⟨r, 2, none⟩ (.int .i64 0)).setCell ⟨r, 3, none⟩ (.bool false)).setCell ⟨r, 4, none⟩ (.bool false)).setCell ⟨r, 5, none⟩ (.bool false)).setCell ⟨r, 6, none⟩ (.int .i64 0)).setCell ⟨r, 7, none⟩ (.int .i64 0)).setCell ⟨r, 8, none⟩ (.int .i64 0)) at cc'
    clear hr cc
    generalize ((((((((((w4.alloc (.cells #[.int .i64 0, .int .i64 0, .int .i64 0, .bool false, .bool false, .bool false, .int .i64 0, .int .i64 0, .int .i64 0] 128)).setCell ⟨r, 0, none⟩ (.int .i64 0)).setCell ⟨r, 1, none⟩ (.int .i64 0)).setCell ⟨r, 2, none⟩ (.int .i64 0)).setCell ⟨r, 3, none⟩ (.bool false)).setCell ⟨r, 4, none⟩ (.bool false)).setCell ⟨r, 5, none⟩ (.bool false)).setCell ⟨r, 6, none⟩ (.int .i64 0)).setCell ⟨r, 7, none⟩ (.int .i64 0)).setCell ⟨r, 8, none⟩ (.int .i64 0)) = wz at *
    have hr := hr'
    have cc := cc'
    clear hr' cc'
    obtain ⟨r0, r1, r2, r3, r4, r5, r6, r7, r8⟩ := hr.cell9
    refine bodyPost_ret (v := .tuple #[(⟨0, 0, 0, false, false, false, 0, 0, 0⟩ : Th).v, .int .i64 X]) (by simp [results, Tryz.results66, go_sem, r0, r1, r2, r3, r4, r5, r6, r7, r8]) rfl ?_
    exact ⟨ret_any (by rw [HE.out.1, HE.out.2] <;> rfl), cc⟩
  obtain ⟨T, hT⟩ : ∃ T, fdT xs cs i = T := ⟨_, rfl⟩
  have HT := hide hT
  have HX := hide hx
  by_cases hc : T.C = 0
  · have HE := hide (ob_gap hx (by rw [hT]; exact hc))
    have HC := hide (show (T.C != 0) = false by simpa using hc)
    clear hx hc hT
    obtain ⟨C, A, F, m, f, d, W, R, D⟩ := T
    obtain ⟨hs, hr, cc, fs, fr, n_sr⟩ := boxes2 w 32 [.pointer p, .pointer tp] 128 [.int .i64 0, .int .i64 0, .int .i64 0, .bool false, .bool false, .bool false, .int .i64 0, .int .i64 0, .int .i64 0]
    go_enter Tryz.func66, Tryz.ntmps66
    go_wp2_with fail
    generalize (w.alloc (.cells #[.pointer p, .pointer tp] 32)).alloc (.cells #[.int .i64 0, .int .i64 0, .int .i64 0, .bool false, .bool false, .bool false, .int .i64 0, .int .i64 0, .int .i64 0] 128) = w3 at *
    generalize w.heap.size + 1 = r at *
    generalize w.heap.size = s at *
    refine (find_is (H.out.grow cc) h1 HT.out HX.out).mono ?_
    rintro e w4 ⟨rfl, c_w4⟩
    replace hs := hs.chg c_w4 id
    replace hr := hr.chg c_w4 id
    replace cc := cc.step c_w4 (fun _ _ h => h.elim)
    clear c_w4 
    have ht := Blk.new w4 128 [.int .i64 C, .int .i64 A, .int .i64 F, .bool m, .bool f, .bool d, .int .i64 W, .int .i64 R, .int .i64 D]
    replace hs := hs.alloc (.cells [.int .i64 C, .int .i64 A, .int .i64 F, .bool m, .bool f, .bool d, .int .i64 W, .int .i64 R, .int .i64 D].toArray 128)
    replace hr := hr.alloc (.cells [.int .i64 C, .int .i64 A, .int .i64 F, .bool m, .bool f, .bool d, .int .i64 W, .int .i64 R, .int .i64 D].toArray 128)
    replace cc := cc.alloc (.cells [.int .i64 C, .int .i64 A, .int .i64 F, .bool m, .bool f, .bool d, .int .i64 W, .int .i64 R, .int .i64 D].toArray 128)
    obtain ⟨x0, x1, x2, x3, x4, x5, x6, x7, x8⟩ := ht.cell9
    go_wp2_with fail
    clear x0 x1 x2 x3 x4 x5 x6 x7 x8
    refine (isobj_is (t := ⟨C, A, F, m, f, d, W, R, D⟩) _ HC.out).mono ?_
    rintro e w6 ⟨rfl, c_w6⟩
    replace hs := hs.chg c_w6 id
    replace hr := hr.chg c_w6 id
    replace ht := ht.chg c_w6 id
    replace cc := cc.step c_w6 (fun _ _ h => h.elim)
    clear c_w6 
    obtain ⟨r0, r1, r2, r3, r4, r5, r6, r7, r8⟩ := hr.cell9
    obtain ⟨k0, k1, k2, k3, k4, k5, k6, k7, k8⟩ := hr.frozen9
    go_wp2
    clear r0 r1 r2 r3 r4 r5 r6 r7 r8 k0 k1 k2 k3 k4 k5 k6 k7 k8
    have hr' : Blk (((((((((w6.setCell ⟨r, 0, none⟩ (.int .i64 0)).setCell ⟨r, 1, none⟩ (.int .i64 0)).setCell ⟨r, 2, none⟩ (.int .i64 0)).setCell ⟨r, 3, none⟩ (.bool false)).setCell ⟨r, 4, none⟩ (.bool false)).setCell ⟨r, 5, none⟩ (.bool false)).setCell ⟨r, 6, none⟩ (.int .i64 0)).setCell ⟨r, 7, none⟩ (.int .i64 0)).setCell ⟨r, 8, none⟩ (.int .i64 0)) r 128 [.int .i64 0, .int .i64 0, .int .i64 0, .bool false, .bool false, .bool false, .int .i64 0, .int .i64 0, .int .i64 0] := hr.put9 (.int .i64 0) (.int .i64 0) (.int .i64 0) (.bool false) (.bool false) (.bool false) (.int .i64 0) (.int .i64 0) (.int .i64 0)
    have cc' := fr.put9 cc (.int .i64 0) (.int .i64 0) (.int .i64 0) (.bool false) (.bool false) (.bool false) (.int .i64 0) (.int .i64 0) (.int .i64 0)
    change Grow _ (((((((((w6.setCell ⟨r, 0, none⟩ (.int .i64 0)).setCell ⟨r, 1, none⟩ (.int .i64 0)).setCell ⟨r, 2, none⟩ (.int .i64 0)).setCell ⟨r, 3, none⟩ (.bool false)).setCell ⟨r, 4, none⟩ (.bool false)).setCell ⟨r, 5, none⟩ (.bool false)).setCell ⟨r, 6, none⟩ (.int .i64 0)).setCell ⟨r, 7, none⟩ (.int .i64 0)).setCell ⟨r, 8, none⟩ (.int .i64 0)) at cc'
    clear hr cc
    generalize (((((((((w6.setCell ⟨r, 0, none⟩ (.int .i64 0)).setCell ⟨r, 1, none⟩ (.int .i64 0)).setCell ⟨r, 2, none⟩ (.int .i64 0)).setCell ⟨r, 3, none⟩ (.bool false)).setCell ⟨r, 4, none⟩ (.bool false)).setCell ⟨r, 5, none⟩ (.bool false)).setCell ⟨r, 6, none⟩ (.int .i64 0)).setCell ⟨r, 7, none⟩ (.int .i64 0)).setCell ⟨r, 8, none⟩ (.int .i64 0)) = wz at *
    have hr := hr'
    have cc := cc'
    clear hr' cc'
    obtain ⟨r0, r1, r2, r3, r4, r5, r6, r7, r8⟩ := hr.cell9
    refine bodyPost_ret (v := .tuple #[(⟨0, 0, 0, false, false, false, 0, 0, 0⟩ : Th).v, .int .i64 5]) (by simp [results, Tryz.results66, go_sem, r0, r1, r2, r3, r4, r5, r6, r7, r8]) rfl ?_
    exact ⟨ret_any (by rw [HE.out.1, HE.out.2] <;> rfl), cc⟩
  · have HE := hide (ob_yes hx (by rw [hT]; exact hc))
    have HC := hide (show (T.C != 0) = true by simpa using hc)
    rw [hT] at HE
    clear hx hc hT
    obtain ⟨C, A, F, m, f, d, W, R, D⟩ := T
    obtain ⟨hs, hr, cc, fs, fr, n_sr⟩ := boxes2 w 32 [.pointer p, .pointer tp] 128 [.int .i64 0, .int .i64 0, .int .i64 0, .bool false, .bool false, .bool false, .int .i64 0, .int .i64 0, .int .i64 0]
    go_enter Tryz.func66, Tryz.ntmps66
    go_wp2_with fail
    generalize (w.alloc (.cells #[.pointer p, .pointer tp] 32)).alloc (.cells #[.int .i64 0, .int .i64 0, .int .i64 0, .bool false, .bool false, .bool false, .int .i64 0, .int .i64 0, .int .i64 0] 128) = w3 at *
    generalize w.heap.size + 1 = r at *
    generalize w.heap.size = s at *
    refine (find_is (H.out.grow cc) h1 HT.out HX.out).mono ?_
    rintro e w4 ⟨rfl, c_w4⟩
    replace hs := hs.chg c_w4 id
    replace hr := hr.chg c_w4 id
    replace cc := cc.step c_w4 (fun _ _ h => h.elim)
    clear c_w4 
    have ht := Blk.new w4 128 [.int .i64 C, .int .i64 A, .int .i64 F, .bool m, .bool f, .bool d, .int .i64 W, .int .i64 R, .int .i64 D]
    replace hs := hs.alloc (.cells [.int .i64 C, .int .i64 A, .int .i64 F, .bool m, .bool f, .bool d, .int .i64 W, .int .i64 R, .int .i64 D].toArray 128)
    replace hr := hr.alloc (.cells [.int .i64 C, .int .i64 A, .int .i64 F, .bool m, .bool f, .bool d, .int .i64 W, .int .i64 R, .int .i64 D].toArray 128)
    replace cc := cc.alloc (.cells [.int .i64 C, .int .i64 A, .int .i64 F, .bool m, .bool f, .bool d, .int .i64 W, .int .i64 R, .int .i64 D].toArray 128)
    obtain ⟨x0, x1, x2, x3, x4, x5, x6, x7, x8⟩ := ht.cell9
    go_wp2_with fail
    clear x0 x1 x2 x3 x4 x5 x6 x7 x8
    refine (isobj_is (t := ⟨C, A, F, m, f, d, W, R, D⟩) _ HC.out).mono ?_
    rintro e w6 ⟨rfl, c_w6⟩
    replace hs := hs.chg c_w6 id
    replace hr := hr.chg c_w6 id
    replace ht := ht.chg c_w6 id
    replace cc := cc.step c_w6 (fun _ _ h => h.elim)
    clear c_w6 
    obtain ⟨x0, x1, x2, x3, x4, x5, x6, x7, x8⟩ := ht.cell9
    obtain ⟨r0, r1, r2, r3, r4, r5, r6, r7, r8⟩ := hr.cell9
    obtain ⟨k0, k1, k2, k3, k4, k5, k6, k7, k8⟩ := hr.frozen9
    go_wp2
    clear r0 r1 r2 r3 r4 r5 r6 r7 r8 k0 k1 k2 k3 k4 k5 k6 k7 k8
    have hr' : Blk (((((((((w6.setCell ⟨r, 0, none⟩ (.int .i64 C)).setCell ⟨r, 1, none⟩ (.int .i64 A)).setCell ⟨r, 2, none⟩ (.int .i64 F)).setCell ⟨r, 3, none⟩ (.bool m)).setCell ⟨r, 4, none⟩ (.bool f)).setCell ⟨r, 5, none⟩ (.bool d)).setCell ⟨r, 6, none⟩ (.int .i64 W)).setCell ⟨r, 7, none⟩ (.int .i64 R)).setCell ⟨r, 8, none⟩ (.int .i64 D)) r 128 [.int .i64 C, .int .i64 A, .int .i64 F, .bool m, .bool f, .bool d, .int .i64 W, .int .i64 R, .int .i64 D] := hr.put9 (.int .i64 C) (.int .i64 A) (.int .i64 F) (.bool m) (.bool f) (.bool d) (.int .i64 W) (.int .i64 R) (.int .i64 D)
    have cc' := fr.put9 cc (.int .i64 C) (.int .i64 A) (.int .i64 F) (.bool m) (.bool f) (.bool d) (.int .i64 W) (.int .i64 R) (.int .i64 D)
    change Grow _ (((((((((w6.setCell ⟨r, 0, none⟩ (.int .i64 C)).setCell ⟨r, 1, none⟩ (.int .i64 A)).setCell ⟨r, 2, none⟩ (.int .i64 F)).setCell ⟨r, 3, none⟩ (.bool m)).setCell ⟨r, 4, none⟩ (.bool f)).setCell ⟨r, 5, none⟩ (.bool d)).setCell ⟨r, 6, none⟩ (.int .i64 W)).setCell ⟨r, 7, none⟩ (.int .i64 R)).setCell ⟨r, 8, none⟩ (.int .i64 D)) at cc'
    clear hr cc
    generalize (((((((((w6.setCell ⟨r, 0, none⟩ (.int .i64 C)).setCell ⟨r, 1, none⟩ (.int .i64 A)).setCell ⟨r, 2, none⟩ (.int .i64 F)).setCell ⟨r, 3, none⟩ (.bool m)).setCell ⟨r, 4, none⟩ (.bool f)).setCell ⟨r, 5, none⟩ (.bool d)).setCell ⟨r, 6, none⟩ (.int .i64 W)).setCell ⟨r, 7, none⟩ (.int .i64 R)).setCell ⟨r, 8, none⟩ (.int .i64 D)) = wz at *
    have hr := hr'
    have cc := cc'
    clear hr' cc'
    obtain ⟨r0, r1, r2, r3, r4, r5, r6, r7, r8⟩ := hr.cell9
    refine bodyPost_ret (v := .tuple #[(⟨C, A, F, m, f, d, W, R, D⟩ : Th).v, .int .i64 0]) (by simp [results, Tryz.results66, go_sem, r0, r1, r2, r3, r4, r5, r6, r7, r8]) rfl ?_
    exact ⟨ret_any (by rw [HE.out.1, HE.out.2] <;> rfl), cc⟩
theorem object_is {i X : Int} {t : Th} (h : St w p tp g xs cs) (h1 : i ≤ 9223372036854775807) (hT : obT xs cs i = t) (hX : obX xs cs i = X) :
    Calls Tryz.prog 66 #[stV p tp, .int .i64 i] w fun e w' => e = .returned (.tuple #[t.v, .int .i64 X]) ∧ Grow w w' := by
  have h' := object_any h i h1
  rwa [hT, hX] at h'

set_option maxHeartbeats 1000000 in
theorem size_any (h : St w p tp g xs cs) (i : Int) (h1 : i ≤ 9223372036854775807) :
    Calls Tryz.prog 53 #[stV p tp, .int .i64 i] w fun e w' => e = .returned (.tuple #[.int .i64 (fdT xs cs i).w, .bool ((fdT xs cs i).C != 0), .int .i64 (fdX xs cs i)]) ∧ Grow w w' := by
  have H := hide h
  clear h
  by_cases hx : fdX xs cs i = 0
  rotate_left
  · obtain ⟨X, hX⟩ : ∃ X, fdX xs cs i = X := ⟨_, rfl⟩
    have HT : Hid (fdT xs cs i = ⟨0, 0, 0, false, false, false, 0, 0, 0⟩) := hide (fd_th0 hx)
    rw [hX] at hx
    have HX := hide hX
    have hx' : (X != 0) = true := by simpa using hx
    clear hX
    obtain ⟨hs, cc, fs⟩ := boxes1 w 32 [.pointer p, .pointer tp]
    go_enter Tryz.func53, Tryz.ntmps53
    go_wp2_with fail
    generalize w.alloc (.cells #[.pointer p, .pointer tp] 32) = w3 at *
    generalize w.heap.size = s at *
    refine (find_is (H.out.grow cc) h1 HT.out HX.out).mono ?_
    rintro e w4 ⟨rfl, c_w4⟩
    replace hs := hs.chg c_w4 id
    replace cc := cc.step c_w4 (fun _ _ h => h.elim)
    clear c_w4 
    have ht := Blk.new w4 128 [.int .i64 0, .int .i64 0, .int .i64 0, .bool false, .bool false, .bool false, .int .i64 0, .int .i64 0, .int .i64 0]
    replace hs := hs.alloc (.cells [.int .i64 0, .int .i64 0, .int .i64 0, .bool false, .bool false, .bool false, .int .i64 0, .int .i64 0, .int .i64 0].toArray 128)
    replace cc := cc.alloc (.cells [.int .i64 0, .int .i64 0, .int .i64 0, .bool false, .bool false, .bool false, .int .i64 0, .int .i64 0, .int .i64 0].toArray 128)
    obtain ⟨x0, x1, x2, x3, x4, x5, x6, x7, x8⟩ := ht.cell9
    go_wp2_with fail
    go_wp2
    go_returns
    exact ⟨ret_any (by rw [HT.out, HX.out] <;> rfl), cc⟩
  obtain ⟨T, hT⟩ : ∃ T, fdT xs cs i = T := ⟨_, rfl⟩
  have HT := hide hT
  have HX := hide hx
  clear hx hT
  obtain ⟨C, A, F, m, f, d, W, R, D⟩ := T
  obtain ⟨hs, cc, fs⟩ := boxes1 w 32 [.pointer p, .pointer tp]
  go_enter Tryz.func53, Tryz.ntmps53
  go_wp2_with fail
  generalize w.alloc (.cells #[.pointer p, .pointer tp] 32) = w3 at *
  generalize w.heap.size = s at *
  refine (find_is (H.out.grow cc) h1 HT.out HX.out).mono ?_
  rintro e w4 ⟨rfl, c_w4⟩
  replace hs := hs.chg c_w4 id
  replace cc := cc.step c_w4 (fun _ _ h => h.elim)
  clear c_w4 
  have ht := Blk.new w4 128 [.int .i64 C, .int .i64 A, .int .i64 F, .bool m, .bool f, .bool d, .int .i64 W, .int .i64 R, .int .i64 D]
  replace hs := hs.alloc (.cells [.int .i64 C, .int .i64 A, .int .i64 F, .bool m, .bool f, .bool d, .int .i64 W, .int .i64 R, .int .i64 D].toArray 128)
  replace cc := cc.alloc (.cells [.int .i64 C, .int .i64 A, .int .i64 F, .bool m, .bool f, .bool d, .int .i64 W, .int .i64 R, .int .i64 D].toArray 128)
  obtain ⟨x0, x1, x2, x3, x4, x5, x6, x7, x8⟩ := ht.cell9
  go_wp2_with fail
  refine wp_region_grow (by kernel_rfl) (by kernel_rfl) ?_
  repeat (
    with_reducible refine wpQuiet_step ?_
    intro K hK
    first
      | ((with_reducible refine quiet_offT rfl ?_ (hK _ ?_)); focus (refine ⟨_, rfl, ?_⟩; with_reducible rfl))
      | ((with_reducible refine quiet_offF rfl ?_ (hK _ ?_)); focus (refine ⟨_, rfl, ?_⟩; with_reducible rfl))
      | ((with_reducible refine quiet_offN rfl ?_ (hK _ ?_)); focus (exact rfl))
      | ((first | with_reducible refine quiet_free rfl ?_ | ((with_reducible refine quiet_on rfl ?_ ?_); focus (refine ⟨_, rfl, ?_⟩; with_reducible rfl)))
         apply Exists.intro
         refine ⟨fun Wq hW => ?_, hK _ ?_⟩
         focus (have q0 := Grow.cell hW x0; have q1 := Grow.cell hW x1; have q2 := Grow.cell hW x2; have q3 := Grow.cell hW x3; have q4 := Grow.cell hW x4; have q5 := Grow.cell hW x5; have q6 := Grow.cell hW x6; have q7 := Grow.cell hW x7; have q8 := Grow.cell hW x8; go_simp; first | done | with_reducible rfl | (go_at_call 87; (first | with_reducible exact grown_call hW (isobj_at C A F m f d W R D _) | with_reducible exact grown_same hW (isobj_at C A F m f d W R D _)))))
    clear hK K
    simp only [Act.put, List.setIfInBounds_toArray, List.set_cons_zero, List.set_cons_succ])
  with_reducible refine wpQuiet_nil ?_
  intro w5 c5
  replace cc := cc.trans c5
  go_wp2
  go_returns
  exact ⟨ret_any (by rw [HT.out, HX.out] <;> rfl), cc⟩
theorem size_is {i W X : Int} {b : Bool} (h : St w p tp g xs cs) (h1 : i ≤ 9223372036854775807) (hW : (fdT xs cs i).w = W) (hb : ((fdT xs cs i).C != 0) = b) (hX : fdX xs cs i = X) :
    Calls Tryz.prog 53 #[stV p tp, .int .i64 i] w fun e w' => e = .returned (.tuple #[.int .i64 W, .bool b, .int .i64 X]) ∧ Grow w w' := by
  have h' := size_any h i h1
  rwa [hW, hb, hX] at h'
set_option maxHeartbeats 1000000 in
theorem shape_any (h : St w p tp g xs cs) (i : Int) (h1 : i ≤ 9223372036854775807) :
    Calls Tryz.prog 32 #[stV p tp, .int .i64 i] w fun e w' => e = .returned (.tuple #[.int .i64 (obT xs cs i).r, .int .i64 (obT xs cs i).n, .int .i64 (obX xs cs i)]) ∧ Grow w w' := by
  have H := hide h
  clear h
  obtain ⟨X, hX⟩ : ∃ X, obX xs cs i = X := ⟨_, rfl⟩
  obtain ⟨T, hT⟩ : ∃ T, obT xs cs i = T := ⟨_, rfl⟩
  have HT := hide hT
  have HX := hide hX
  clear hX hT
  obtain ⟨C, A, F, m, f, d, W, R, D⟩ := T
  obtain ⟨hs, cc, fs⟩ := boxes1 w 32 [.pointer p, .pointer tp]
  go_enter Tryz.func32, Tryz.ntmps32
  go_wp2_with fail
  generalize w.alloc (.cells #[.pointer p, .pointer tp] 32) = w3 at *
  generalize w.heap.size = s at *
  refine (object_is (H.out.grow cc) h1 HT.out HX.out).mono ?_
  rintro e w4 ⟨rfl, c_w4⟩
  replace hs := hs.chg c_w4 id
  replace cc := cc.step c_w4 (fun _ _ h => h.elim)
  clear c_w4 
  have ht := Blk.new w4 128 [.int .i64 C, .int .i64 A, .int .i64 F, .bool m, .bool f, .bool d, .int .i64 W, .int .i64 R, .int .i64 D]
  replace hs := hs.alloc (.cells [.int .i64 C, .int .i64 A, .int .i64 F, .bool m, .bool f, .bool d, .int .i64 W, .int .i64 R, .int .i64 D].toArray 128)
  replace cc := cc.alloc (.cells [.int .i64 C, .int .i64 A, .int .i64 F, .bool m, .bool f, .bool d, .int .i64 W, .int .i64 R, .int .i64 D].toArray 128)
  obtain ⟨x0, x1, x2, x3, x4, x5, x6, x7, x8⟩ := ht.cell9
  go_wp2_with fail
  refine wp_region_grow (by kernel_rfl) (by kernel_rfl) ?_
  repeat (
    with_reducible refine wpQuiet_step ?_
    intro K hK
    first
      | ((with_reducible refine quiet_offT rfl ?_ (hK _ ?_)); focus (refine ⟨_, rfl, ?_⟩; with_reducible rfl))
      | ((with_reducible refine quiet_offF rfl ?_ (hK _ ?_)); focus (refine ⟨_, rfl, ?_⟩; with_reducible rfl))
      | ((with_reducible refine quiet_offN rfl ?_ (hK _ ?_)); focus (exact rfl))
      | ((first | with_reducible refine quiet_free rfl ?_ | ((with_reducible refine quiet_on rfl ?_ ?_); focus (refine ⟨_, rfl, ?_⟩; with_reducible rfl)))
         apply Exists.intro
         refine ⟨fun Wq hW => ?_, hK _ ?_⟩
         focus (have q0 := Grow.cell hW x0; have q1 := Grow.cell hW x1; have q2 := Grow.cell hW x2; have q3 := Grow.cell hW x3; have q4 := Grow.cell hW x4; have q5 := Grow.cell hW x5; have q6 := Grow.cell hW x6; have q7 := Grow.cell hW x7; have q8 := Grow.cell hW x8; go_simp; first | done | with_reducible rfl))
    clear hK K
    simp only [Act.put, List.setIfInBounds_toArray, List.set_cons_zero, List.set_cons_succ])
  with_reducible refine wpQuiet_nil ?_
  intro w5 c5
  replace cc := cc.trans c5
  go_wp2
  go_returns
  exact ⟨ret_any (by rw [HT.out, HX.out] <;> rfl), cc⟩
theorem oshape_is {i R D X : Int} (h : St w p tp g xs cs) (h1 : i ≤ 9223372036854775807) (hR : (obT xs cs i).r = R) (hD : (obT xs cs i).n = D) (hX : obX xs cs i = X) :
    Calls Tryz.prog 32 #[stV p tp, .int .i64 i] w fun e w' => e = .returned (.tuple #[.int .i64 R, .int .i64 D, .int .i64 X]) ∧ Grow w w' := by
  have h' := shape_any h i h1
  rwa [hR, hD, hX] at h'
set_option maxHeartbeats 1000000 in
theorem head_any (h : St w p tp g xs cs) (i : Int) (h1 : i ≤ 9223372036854775807) :
    Calls Tryz.prog 63 #[stV p tp, .int .i64 i] w fun e w' => e = .returned (.tuple #[hdV (obT xs cs i).C (obT xs cs i).A (obT xs cs i).F (obT xs cs i).m (obT xs cs i).f (obT xs cs i).d, .int .i64 (obX xs cs i)]) ∧ Grow w w' := by
  have H := hide h
  clear h
  obtain ⟨X, hX⟩ : ∃ X, obX xs cs i = X := ⟨_, rfl⟩
  obtain ⟨T, hT⟩ : ∃ T, obT xs cs i = T := ⟨_, rfl⟩
  have HT := hide hT
  have HX := hide hX
  clear hX hT
  obtain ⟨C, A, F, m, f, d, W, R, D⟩ := T
  obtain ⟨hs, hr, cc, fs, fr, n_sr⟩ := boxes2 w 32 [.pointer p, .pointer tp] 123 [.int .i64 0, .int .i64 0, .int .i64 0, .bool false, .bool false, .bool false]
  go_enter Tryz.func63, Tryz.ntmps63
  go_wp2_with fail
  generalize (w.alloc (.cells #[.pointer p, .pointer tp] 32)).alloc (.cells #[.int .i64 0, .int .i64 0, .int .i64 0, .bool false, .bool false, .bool false] 123) = w3 at *
  generalize w.heap.size + 1 = r at *
  generalize w.heap.size = s at *
  refine (object_is (H.out.grow cc) h1 HT.out HX.out).mono ?_
  rintro e w4 ⟨rfl, c_w4⟩
  replace hs := hs.chg c_w4 id
  replace hr := hr.chg c_w4 id
  replace cc := cc.step c_w4 (fun _ _ h => h.elim)
  clear c_w4 
  have ht := Blk.new w4 128 [.int .i64 C, .int .i64 A, .int .i64 F, .bool m, .bool f, .bool d, .int .i64 W, .int .i64 R, .int .i64 D]
  replace hs := hs.alloc (.cells [.int .i64 C, .int .i64 A, .int .i64 F, .bool m, .bool f, .bool d, .int .i64 W, .int .i64 R, .int .i64 D].toArray 128)
  replace hr := hr.alloc (.cells [.int .i64 C, .int .i64 A, .int .i64 F, .bool m, .bool f, .bool d, .int .i64 W, .int .i64 R, .int .i64 D].toArray 128)
  replace cc := cc.alloc (.cells [.int .i64 C, .int .i64 A, .int .i64 F, .bool m, .bool f, .bool d, .int .i64 W, .int .i64 R, .int .i64 D].toArray 128)
  obtain ⟨x0, x1, x2, x3, x4, x5, x6, x7, x8⟩ := ht.cell9
  obtain ⟨r0, r1, r2, r3, r4, r5⟩ := hr.cell6
  obtain ⟨k0, k1, k2, k3, k4, k5⟩ := hr.frozen6
  go_wp2
  clear r0 r1 r2 r3 r4 r5 k0 k1 k2 k3 k4 k5 x0 x1 x2 x3 x4 x5 x6 x7 x8
  have hr' : Blk (((((((w4.alloc (.cells #[.int .i64 C, .int .i64 A, .int .i64 F, .bool m, .bool f, .bool d, .int .i64 W, .int .i64 R, .int .i64 D] 128)).setCell ⟨r, 0, none⟩ (.int .i64 C)).setCell ⟨r, 1, none⟩ (.int .i64 A)).setCell ⟨r, 2, none⟩ (.int .i64 F)).setCell ⟨r, 3, none⟩ (.bool m)).setCell ⟨r, 4, none⟩ (.bool f)).setCell ⟨r, 5, none⟩ (.bool d)) r 123 [.int .i64 C, .int .i64 A, .int .i64 F, .bool m, .bool f, .bool d] := hr.put6 (.int .i64 C) (.int .i64 A) (.int .i64 F) (.bool m) (.bool f) (.bool d)
  have cc' := fr.put6 cc (.int .i64 C) (.int .i64 A) (.int .i64 F) (.bool m) (.bool f) (.bool d)
  change Grow _ (((((((w4.alloc (.cells #[.int .i64 C, .int .i64 A, .int .i64 F, .bool m, .bool f, .bool d, .int .i64 W, .int .i64 R, .int .i64 D] 128)).setCell ⟨r, 0, none⟩ (.int .i64 C)).setCell ⟨r, 1, none⟩ (.int .i64 A)).setCell ⟨r, 2, none⟩ (.int .i64 F)).setCell ⟨r, 3, none⟩ (.bool m)).setCell ⟨r, 4, none⟩ (.bool f)).setCell ⟨r, 5, none⟩ (.bool d)) at cc'
  clear hr cc
  generalize (((((((w4.alloc (.cells #[.int .i64 C, .int .i64 A, .int .i64 F, .bool m, .bool f, .bool d, .int .i64 W, .int .i64 R, .int .i64 D] 128)).setCell ⟨r, 0, none⟩ (.int .i64 C)).setCell ⟨r, 1, none⟩ (.int .i64 A)).setCell ⟨r, 2, none⟩ (.int .i64 F)).setCell ⟨r, 3, none⟩ (.bool m)).setCell ⟨r, 4, none⟩ (.bool f)).setCell ⟨r, 5, none⟩ (.bool d)) = wz at *
  have hr := hr'
  have cc := cc'
  clear hr' cc'
  obtain ⟨r0, r1, r2, r3, r4, r5⟩ := hr.cell6
  refine bodyPost_ret (v := .tuple #[hdV C A F m f d, .int .i64 X]) (by simp [results, Tryz.results63, go_sem, r0, r1, r2, r3, r4, r5]) rfl ?_
  exact ⟨ret_any (by rw [HT.out, HX.out] <;> rfl), cc⟩
theorem head_is {i C A F X : Int} {m f d : Bool} (h : St w p tp g xs cs) (h1 : i ≤ 9223372036854775807) (hT : hdV (obT xs cs i).C (obT xs cs i).A (obT xs cs i).F (obT xs cs i).m (obT xs cs i).f (obT xs cs i).d = hdV C A F m f d) (hX : obX xs cs i = X) :
    Calls Tryz.prog 63 #[stV p tp, .int .i64 i] w fun e w' => e = .returned (.tuple #[hdV C A F m f d, .int .i64 X]) ∧ Grow w w' := by
  have h' := head_any h i h1
  rwa [hT, hX] at h'
end
end Go.Proofs.YtogfjclmohpjkaaGreatDoor.L6
/- What Ref, Num, SetRef and SetNum answer, and what they store. Conditions: the numbers given fit their kinds. -/
namespace Go.Proofs.YtogfjclmohpjkaaGreatDoor.L6
open Go.ChangeShapes Go.WideShapes Go.ChangeAt Go.RowKit
open Go.Proofs.YtogfjclmohpjkaaGreatDoor.L1 (Sl Ar ptr exB)
open Go.Proofs.YtogfjclmohpjkaaGreatDoor.L4 (hdV riB wd wdV wdX ofB ofC ofA ofF ofM ofN ofD ofV ofX set6)
open Go.Proofs.YtogfjclmohpjkaaGreatDoor.L5 (Cl clV rtB Tb clAt shX shR shD woV c0 IsCls newX)
set_option linter.unusedVariables false
set_option maxRecDepth 100000

section
variable {w w' : World} {p tp : Option Addr} {g : Nat} {xs ys : List Int} {cs : List Cl}
/-- What an object's parts are between. -/
theorem ob_bd (hrt : cs.all Cl.rt = true) {i : Int} (h : obX xs cs i = 0) :
    1 ≤ i ∧ 0 ≤ (obT xs cs i).r ∧ (obT xs cs i).r ≤ 30 ∧ 0 ≤ (obT xs cs i).n ∧ (obT xs cs i).n ≤ 30 ∧ i + 2 + (obT xs cs i).r + (obT xs cs i).n ≤ xs.length := by
  have hf : fdX xs cs i = 0 := Classical.byContradiction fun hf => by rw [(ob_no hf).2] at h; exact hf h
  have hc : ¬ (fdT xs cs i).C = 0 := fun hc => by rw [(ob_gap hf hc).2] at h; exact absurd h (by decide)
  rw [(ob_yes hf hc).1]
  have hb : fdB xs cs i = true := by
    unfold fdX at hf
    split at hf
    · split at hf
      · assumption
      · exact absurd hf (by decide)
    · exact absurd hf (by decide)
  have ht : fdT xs cs i = woT xs cs i := by simp [fdT, hb]
  rw [ht] at hc ⊢
  have hb' := hb
  simp only [fdB, Bool.and_eq_true] at hb'
  obtain ⟨h1, h2, h3, h4⟩ := hb'
  simp only [oxB, decide_eq_true_eq] at h1 h4
  unfold woT at hc h4 ⊢
  by_cases hs : ofC (gw xs i) = 0 ∧ ofM (gw xs i) = true
  · rw [(me_single hs).1] at hc; exact absurd hs.1 hc
  by_cases h2' : i + 1 < xs.length
  · by_cases hC : ofC (gw xs i) = 0
    · rw [(me_gap hs h2' hC).1] at hc; exact absurd hC hc
    · have e := (me_obj (cs := cs) (A := ofA (gw xs i)) (F := ofF (gw xs i)) (m := ofM (gw xs i)) (f := ofN (gw xs i)) (d := ofD (gw xs i)) h2' hC).1
      rw [e] at h4 ⊢
      have := L5.sh_bd (o := clAt cs (ofC (gw xs i))) (fun c hc => L5.clAt_rt hrt hc) (gw xs (i + 1))
      dsimp only at h4 ⊢
      omega
  · rw [(me_off hs h2').1] at hc; exact absurd rfl hc

def plX (n k : Int) : Int := if 0 ≤ k ∧ k < n then 0 else 1
def plP (a n k : Int) : Int := if 0 ≤ k ∧ k < n then a + k else 0
set_option maxHeartbeats 400000 in
theorem place_any (a n k : Int) (w : World) (h : 0 ≤ a ∧ a ≤ 5000) (hn : n ≤ 5000) :
    Calls Tryz.prog 96 #[.int .i64 a, .int .i64 n, .int .i64 k] w fun e w' => e = .returned (.tuple #[.int .i64 (plP a n k), .int .i64 (plX n k)]) ∧ w = w' := by
  by_cases h1 : 0 ≤ k
  · have h1' : decide (k < 0) = false := by simp; omega
    by_cases h2 : k < n
    · have HE := hide (show plP a n k = a + k ∧ plX n k = 0 by simp [plP, plX, h1, h2])
      have h2' : decide (k ≥ n) = false := by simp; omega
      go_enter Tryz.func96, Tryz.ntmps96
      go_wp2
      go_returns
      exact ⟨ret_any (by rw [HE.out.1, HE.out.2] <;> rfl), rfl⟩
    · have HE := hide (show plP a n k = 0 ∧ plX n k = 1 by simp [plP, plX, h2])
      have h2' : decide (k ≥ n) = true := by simp; omega
      go_enter Tryz.func96, Tryz.ntmps96
      go_wp2
      go_returns
      exact ⟨ret_any (by rw [HE.out.1, HE.out.2] <;> rfl), rfl⟩
  · have h1' : decide (k < 0) = true := by simp; omega
    have HE := hide (show plP a n k = 0 ∧ plX n k = 1 by simp [plP, plX, h1])
    go_enter Tryz.func96, Tryz.ntmps96
    go_wp2
    go_returns
    exact ⟨ret_any (by rw [HE.out.1, HE.out.2] <;> rfl), rfl⟩

/-- Which reference, or number, of an object: the error's number; where it stands. -/
def slN (t : Th) (num : Bool) : Int := if num then t.n else t.r
def slA (t : Th) (i : Int) (num : Bool) : Int := if num then i + 2 + t.r else i + 2
def slX (xs : List Int) (cs : List Cl) (i k : Int) (num : Bool) : Int := if obX xs cs i = 0 then plX (slN (obT xs cs i) num) k else obX xs cs i
def slP (xs : List Int) (cs : List Cl) (i k : Int) (num : Bool) : Int := if slX xs cs i k num = 0 then slA (obT xs cs i) i num + k else 0
theorem sl_no {i k : Int} {num : Bool} (h : ¬ obX xs cs i = 0) : slX xs cs i k num = obX xs cs i ∧ slP xs cs i k num = 0 := by
  have e : slX xs cs i k num = obX xs cs i := by simp [slX, h]
  exact ⟨e, by simp [slP, e, h]⟩
theorem sl_yes {i k : Int} {num : Bool} (h : obX xs cs i = 0) : slX xs cs i k num = plX (slN (obT xs cs i) num) k ∧ slP xs cs i k num = plP (slA (obT xs cs i) i num) (slN (obT xs cs i) num) k := by
  have e : slX xs cs i k num = plX (slN (obT xs cs i) num) k := by simp [slX, h]
  refine ⟨e, ?_⟩
  simp only [slP, e, plP, plX]
  by_cases hk : 0 ≤ k ∧ k < slN (obT xs cs i) num
  · rw [if_pos hk, if_pos hk, if_pos rfl]
  · rw [if_neg hk, if_neg hk, if_neg (by decide)]
theorem sl_bd (hrt : cs.all Cl.rt = true) {i k : Int} {num : Bool} (h : slX xs cs i k num = 0) :
    slP xs cs i k num = slA (obT xs cs i) i num + k ∧ 0 ≤ k ∧ k < slN (obT xs cs i) num ∧ 3 ≤ slP xs cs i k num ∧ slP xs cs i k num < xs.length := by
  have ho : obX xs cs i = 0 := Classical.byContradiction fun ho => by rw [(sl_no (k := k) (num := num) ho).1] at h; exact ho h
  have hb := ob_bd hrt ho
  have e : slP xs cs i k num = slA (obT xs cs i) i num + k := by simp [slP, h]
  rw [(sl_yes ho).1] at h
  unfold plX at h
  split at h
  · rename_i hk
    rw [e]
    refine ⟨rfl, ?_⟩
    cases num <;> simp only [slA, slN, if_true, Bool.false_eq_true, if_false] at hk ⊢ <;> omega
  · exact absurd h (by decide)

set_option maxHeartbeats 1000000 in
theorem refat_any (h : St w p tp g xs cs) (i k : Int) (h1 : i ≤ 9223372036854775807) :
    Calls Tryz.prog 67 #[stV p tp, .int .i64 i, .int .i64 k] w fun e w' => e = .returned (.tuple #[.int .i64 (slP xs cs i k false), .int .i64 (slX xs cs i k false)]) ∧ Grow w w' := by
  by_cases hx : obX xs cs i = 0
  rotate_left
  · have HE := hide (sl_no (k := k) (num := false) hx)
    have H := hide h
    clear h
    obtain ⟨X, hX⟩ : ∃ X, obX xs cs i = X := ⟨_, rfl⟩
    obtain ⟨T, hT⟩ : ∃ T, obT xs cs i = T := ⟨_, rfl⟩
    rw [hX] at hx HE
    have HT := hide hT
    have HX := hide hX
    have hx' : (X != 0) = true := by simpa using hx
    clear hX hT
    obtain ⟨C, A, F, m, f, d, W, R, D⟩ := T
    obtain ⟨hs, cc, fs⟩ := boxes1 w 32 [.pointer p, .pointer tp]
    go_enter Tryz.func67, Tryz.ntmps67
    go_wp2_with fail
    generalize w.alloc (.cells #[.pointer p, .pointer tp] 32) = w3 at *
    generalize w.heap.size = s at *
    refine (object_is (H.out.grow cc) h1 HT.out HX.out).mono ?_
    rintro e w4 ⟨rfl, c_w4⟩
    replace hs := hs.chg c_w4 id
    replace cc := cc.step c_w4 (fun _ _ h => h.elim)
    clear c_w4 
    have ht := Blk.new w4 128 [.int .i64 C, .int .i64 A, .int .i64 F, .bool m, .bool f, .bool d, .int .i64 W, .int .i64 R, .int .i64 D]
    replace hs := hs.alloc (.cells [.int .i64 C, .int .i64 A, .int .i64 F, .bool m, .bool f, .bool d, .int .i64 W, .int .i64 R, .int .i64 D].toArray 128)
    replace cc := cc.alloc (.cells [.int .i64 C, .int .i64 A, .int .i64 F, .bool m, .bool f, .bool d, .int .i64 W, .int .i64 R, .int .i64 D].toArray 128)
    obtain ⟨x0, x1, x2, x3, x4, x5, x6, x7, x8⟩ := ht.cell9
    clear x0 x1 x2 x3 x4 x5 x6 x7 x8
    go_wp2
    go_returns
    exact ⟨ret_any (by rw [HE.out.1, HE.out.2] <;> rfl), cc⟩
  · have HE := hide (sl_yes (k := k) (num := false) hx)
    have hb := ob_bd h.rt hx
    have hn := h.n
    have H := hide h
    clear h
    obtain ⟨T, hT⟩ : ∃ T, obT xs cs i = T := ⟨_, rfl⟩
    rw [hT] at hb HE
    have HT := hide hT
    have HX := hide hx
    clear hx hT
    obtain ⟨C, A, F, m, f, d, W, R, D⟩ := T
    dsimp only at hb
    obtain ⟨hs, cc, fs⟩ := boxes1 w 32 [.pointer p, .pointer tp]
    go_enter Tryz.func67, Tryz.ntmps67
    go_wp2_with fail
    generalize w.alloc (.cells #[.pointer p, .pointer tp] 32) = w3 at *
    generalize w.heap.size = s at *
    refine (object_is (H.out.grow cc) h1 HT.out HX.out).mono ?_
    rintro e w4 ⟨rfl, c_w4⟩
    replace hs := hs.chg c_w4 id
    replace cc := cc.step c_w4 (fun _ _ h => h.elim)
    clear c_w4 
    have ht := Blk.new w4 128 [.int .i64 C, .int .i64 A, .int .i64 F, .bool m, .bool f, .bool d, .int .i64 W, .int .i64 R, .int .i64 D]
    replace hs := hs.alloc (.cells [.int .i64 C, .int .i64 A, .int .i64 F, .bool m, .bool f, .bool d, .int .i64 W, .int .i64 R, .int .i64 D].toArray 128)
    replace cc := cc.alloc (.cells [.int .i64 C, .int .i64 A, .int .i64 F, .bool m, .bool f, .bool d, .int .i64 W, .int .i64 R, .int .i64 D].toArray 128)
    obtain ⟨x0, x1, x2, x3, x4, x5, x6, x7, x8⟩ := ht.cell9
    go_wp2_with fail
    refine (place_any _ _ _ _ (by omega) (by omega)).mono ?_
    rintro e w' ⟨rfl, rfl⟩
    go_wp2
    go_returns
    exact ⟨ret_any (by rw [HE.out.1, HE.out.2] <;> rfl), cc⟩
theorem refat_is {i k P X : Int} (h : St w p tp g xs cs) (h1 : i ≤ 9223372036854775807) (hP : slP xs cs i k false = P) (hX : slX xs cs i k false = X) :
    Calls Tryz.prog 67 #[stV p tp, .int .i64 i, .int .i64 k] w fun e w' => e = .returned (.tuple #[.int .i64 P, .int .i64 X]) ∧ Grow w w' := by
  have h' := refat_any h i k h1
  rwa [hP, hX] at h'
set_option maxHeartbeats 1000000 in
theorem numat_any (h : St w p tp g xs cs) (i k : Int) (h1 : i ≤ 9223372036854775807) :
    Calls Tryz.prog 95 #[stV p tp, .int .i64 i, .int .i64 k] w fun e w' => e = .returned (.tuple #[.int .i64 (slP xs cs i k true), .int .i64 (slX xs cs i k true)]) ∧ Grow w w' := by
  by_cases hx : obX xs cs i = 0
  rotate_left
  · have HE := hide (sl_no (k := k) (num := true) hx)
    have H := hide h
    clear h
    obtain ⟨X, hX⟩ : ∃ X, obX xs cs i = X := ⟨_, rfl⟩
    obtain ⟨T, hT⟩ : ∃ T, obT xs cs i = T := ⟨_, rfl⟩
    rw [hX] at hx HE
    have HT := hide hT
    have HX := hide hX
    have hx' : (X != 0) = true := by simpa using hx
    clear hX hT
    obtain ⟨C, A, F, m, f, d, W, R, D⟩ := T
    obtain ⟨hs, cc, fs⟩ := boxes1 w 32 [.pointer p, .pointer tp]
    go_enter Tryz.func95, Tryz.ntmps95
    go_wp2_with fail
    generalize w.alloc (.cells #[.pointer p, .pointer tp] 32) = w3 at *
    generalize w.heap.size = s at *
    refine (object_is (H.out.grow cc) h1 HT.out HX.out).mono ?_
    rintro e w4 ⟨rfl, c_w4⟩
    replace hs := hs.chg c_w4 id
    replace cc := cc.step c_w4 (fun _ _ h => h.elim)
    clear c_w4 
    have ht := Blk.new w4 128 [.int .i64 C, .int .i64 A, .int .i64 F, .bool m, .bool f, .bool d, .int .i64 W, .int .i64 R, .int .i64 D]
    replace hs := hs.alloc (.cells [.int .i64 C, .int .i64 A, .int .i64 F, .bool m, .bool f, .bool d, .int .i64 W, .int .i64 R, .int .i64 D].toArray 128)
    replace cc := cc.alloc (.cells [.int .i64 C, .int .i64 A, .int .i64 F, .bool m, .bool f, .bool d, .int .i64 W, .int .i64 R, .int .i64 D].toArray 128)
    obtain ⟨x0, x1, x2, x3, x4, x5, x6, x7, x8⟩ := ht.cell9
    clear x0 x1 x2 x3 x4 x5 x6 x7 x8
    go_wp2
    go_returns
    exact ⟨ret_any (by rw [HE.out.1, HE.out.2] <;> rfl), cc⟩
  · have HE := hide (sl_yes (k := k) (num := true) hx)
    have hb := ob_bd h.rt hx
    have hn := h.n
    have H := hide h
    clear h
    obtain ⟨T, hT⟩ : ∃ T, obT xs cs i = T := ⟨_, rfl⟩
    rw [hT] at hb HE
    have HT := hide hT
    have HX := hide hx
    clear hx hT
    obtain ⟨C, A, F, m, f, d, W, R, D⟩ := T
    dsimp only at hb
    obtain ⟨hs, cc, fs⟩ := boxes1 w 32 [.pointer p, .pointer tp]
    go_enter Tryz.func95, Tryz.ntmps95
    go_wp2_with fail
    generalize w.alloc (.cells #[.pointer p, .pointer tp] 32) = w3 at *
    generalize w.heap.size = s at *
    refine (object_is (H.out.grow cc) h1 HT.out HX.out).mono ?_
    rintro e w4 ⟨rfl, c_w4⟩
    replace hs := hs.chg c_w4 id
    replace cc := cc.step c_w4 (fun _ _ h => h.elim)
    clear c_w4 
    have ht := Blk.new w4 128 [.int .i64 C, .int .i64 A, .int .i64 F, .bool m, .bool f, .bool d, .int .i64 W, .int .i64 R, .int .i64 D]
    replace hs := hs.alloc (.cells [.int .i64 C, .int .i64 A, .int .i64 F, .bool m, .bool f, .bool d, .int .i64 W, .int .i64 R, .int .i64 D].toArray 128)
    replace cc := cc.alloc (.cells [.int .i64 C, .int .i64 A, .int .i64 F, .bool m, .bool f, .bool d, .int .i64 W, .int .i64 R, .int .i64 D].toArray 128)
    obtain ⟨x0, x1, x2, x3, x4, x5, x6, x7, x8⟩ := ht.cell9
    go_wp2_with fail
    refine (place_any _ _ _ _ (by omega) (by omega)).mono ?_
    rintro e w' ⟨rfl, rfl⟩
    go_wp2
    go_returns
    exact ⟨ret_any (by rw [HE.out.1, HE.out.2] <;> rfl), cc⟩
theorem numat_is {i k P X : Int} (h : St w p tp g xs cs) (h1 : i ≤ 9223372036854775807) (hP : slP xs cs i k true = P) (hX : slX xs cs i k true = X) :
    Calls Tryz.prog 95 #[stV p tp, .int .i64 i, .int .i64 k] w fun e w' => e = .returned (.tuple #[.int .i64 P, .int .i64 X]) ∧ Grow w w' := by
  have h' := numat_any h i k h1
  rwa [hP, hX] at h'

/-- What a field is. -/
def slV (xs : List Int) (cs : List Cl) (i k : Int) (num : Bool) : Int := if slX xs cs i k num = 0 then gw xs (slP xs cs i k num) else 0
set_option maxHeartbeats 1000000 in
theorem ref_any (h : St w p tp g xs cs) (i k : Int) (h1 : i ≤ 9223372036854775807) :
    Calls Tryz.prog 47 #[stV p tp, .int .i64 i, .int .i64 k] w fun e w' => e = .returned (.tuple #[.int .i64 (slV xs cs i k false), .int .i64 (slX xs cs i k false)]) ∧ Grow w w' := by
  have hn := h.n
  by_cases hx : slX xs cs i k false = 0
  rotate_left
  · have HV := hide (show slV xs cs i k false = 0 by simp [slV, hx])
    have HP := hide (show slP xs cs i k false = 0 by simp [slP, hx])
    have H := hide h
    clear h
    obtain ⟨X, hX⟩ : ∃ X, slX xs cs i k false = X := ⟨_, rfl⟩
    rw [hX] at hx
    have HX := hide hX
    have hx' : (X != 0) = true := by simpa using hx
    clear hX
    obtain ⟨hs, cc, fs⟩ := boxes1 w 32 [.pointer p, .pointer tp]
    go_enter Tryz.func47, Tryz.ntmps47
    go_wp2_with fail
    generalize w.alloc (.cells #[.pointer p, .pointer tp] 32) = w3 at *
    generalize w.heap.size = s at *
    refine (refat_is (H.out.grow cc) h1 HP.out HX.out).mono ?_
    rintro e w4 ⟨rfl, c_w4⟩
    replace hs := hs.chg c_w4 id
    replace cc := cc.step c_w4 (fun _ _ h => h.elim)
    clear c_w4 
    go_wp2
    go_returns
    exact ⟨ret_any (by rw [HV.out, HX.out] <;> rfl), cc⟩
  · have hb := sl_bd h.rt hx
    obtain ⟨P, hP⟩ : ∃ P, slP xs cs i k false = P := ⟨_, rfl⟩
    have HV := hide (show slV xs cs i k false = gw xs P by simp [slV, hx, hP])
    rw [hP] at hb
    have HP := hide hP
    have HX := hide hx
    have eL : ldB xs P = true := by simp [ldB]; omega
    have HL := hide (show ldV xs P = gw xs P ∧ ldX xs P = 0 by simp [ldV, ldX, eL])
    have H := hide h
    have hp : P ≤ 9223372036854775807 := by omega
    clear h hx hP eL hb
    obtain ⟨hs, cc, fs⟩ := boxes1 w 32 [.pointer p, .pointer tp]
    go_enter Tryz.func47, Tryz.ntmps47
    go_wp2_with fail
    generalize w.alloc (.cells #[.pointer p, .pointer tp] 32) = w3 at *
    generalize w.heap.size = s at *
    refine (refat_is (H.out.grow cc) h1 HP.out HX.out).mono ?_
    rintro e w4 ⟨rfl, c_w4⟩
    replace hs := hs.chg c_w4 id
    replace cc := cc.step c_w4 (fun _ _ h => h.elim)
    clear c_w4 
    obtain ⟨s0, s1⟩ := hs.cell2
    go_wp2_with fail
    refine (load_is (H.out.grow cc).ar hn hp HL.out.1 HL.out.2).mono ?_
    rintro e w' ⟨rfl, rfl⟩
    go_wp2
    go_returns
    exact ⟨ret_any (by rw [HV.out, HX.out] <;> rfl), cc⟩
theorem ref_is {i k V X : Int} (h : St w p tp g xs cs) (h1 : i ≤ 9223372036854775807) (hV : slV xs cs i k false = V) (hX : slX xs cs i k false = X) :
    Calls Tryz.prog 47 #[stV p tp, .int .i64 i, .int .i64 k] w fun e w' => e = .returned (.tuple #[.int .i64 V, .int .i64 X]) ∧ Grow w w' := by
  have h' := ref_any h i k h1
  rwa [hV, hX] at h'
set_option maxHeartbeats 1000000 in
theorem setref_no {i k u X : Int} (h : St w p tp g xs cs) (h1 : i ≤ 9223372036854775807) (hX : slX xs cs i k false = X) (hx : ¬ X = 0) :
    Calls Tryz.prog 33 #[stV p tp, .int .i64 i, .int .i64 k, .int .i64 u] w fun e w' => e = .returned (.int .i64 X) ∧ Grow w w' := by
  have HP := hide (show slP xs cs i k false = 0 by simp [slP, hX, hx])
  have HX := hide hX
  have H := hide h
  have hx' : (X != 0) = true := by simpa using hx
  clear h hX
  obtain ⟨hs, cc, fs⟩ := boxes1 w 32 [.pointer p, .pointer tp]
  go_enter Tryz.func33, Tryz.ntmps33
  go_wp2_with fail
  generalize w.alloc (.cells #[.pointer p, .pointer tp] 32) = w3 at *
  generalize w.heap.size = s at *
  refine (refat_is (H.out.grow cc) h1 HP.out HX.out).mono ?_
  rintro e w4 ⟨rfl, c_w4⟩
  replace hs := hs.chg c_w4 id
  replace cc := cc.step c_w4 (fun _ _ h => h.elim)
  clear c_w4 
  go_wp2
  go_ret
  exact ⟨rfl, cc⟩
set_option maxHeartbeats 1000000 in
theorem setref_in {i k P u : Int} (h : St w p tp g xs cs) (h1 : i ≤ 9223372036854775807) (hX : slX xs cs i k false = 0) (hP : slP xs cs i k false = P) :
    Calls Tryz.prog 33 #[stV p tp, .int .i64 i, .int .i64 k, .int .i64 u] w fun e w' => e = .returned (.int .i64 0) ∧ St w' p tp g (xs.set P.toNat u) cs ∧ Chg (· = g) w w' := by
  have hn := h.n
  have hb := sl_bd h.rt hX
  rw [hP] at hb
  have HX := hide hX
  have HP := hide hP
  obtain ⟨K, rfl⟩ := Int.eq_ofNat_of_zero_le (show 0 ≤ P by omega)
  have hk : K < xs.length := by omega
  obtain ⟨b, rfl, -⟩ : ∃ b, p = some ⟨b, 0, none⟩ ∧ Ar w b g xs := by
    rcases h.ar with ⟨_, rfl⟩ | ha
    · simp at hk
    · exact ha
  have H := hide h
  clear h hX hP hb
  obtain ⟨hs, cc, fs⟩ := boxes1 w 32 [.pointer (some ⟨b, 0, none⟩), .pointer tp]
  go_enter Tryz.func33, Tryz.ntmps33
  go_wp2_with fail
  generalize w.alloc (.cells #[.pointer (some ⟨b, 0, none⟩), .pointer tp] 32) = w3 at *
  generalize w.heap.size = s at *
  refine (refat_is (H.out.grow cc) h1 HP.out HX.out).mono ?_
  rintro e w4 ⟨rfl, c_w4⟩
  replace hs := hs.chg c_w4 id
  replace cc := cc.step c_w4 (fun _ _ h => h.elim)
  clear c_w4 
  obtain ⟨s0, s1⟩ := hs.cell2
  go_wp2_with fail
  have H4 := hide (H.out.grow cc)
  obtain ⟨ha⟩ : Nonempty (Ar w4 b g xs) := by
    rcases H4.out.ar with ⟨e, _⟩ | ⟨b', e, ha⟩
    · cases e
    · injection e with e; injection e with e; subst e; exact ⟨ha⟩
  refine (L1.store_ok b g xs K u w4 ha hn hk).mono ?_
  rintro e w5 ⟨rfl, ha5, c5⟩
  have H5 := hide (H4.out.put ha5 (by simp) c5)
  have c6 := (cc.mono (S := (· = g)) (fun _ _ h => h.elim)).trans c5
  clear ha ha5 c5 cc s0 s1 hs
  go_wp2
  go_ret
  exact ⟨rfl, H5.out, c6⟩
set_option maxHeartbeats 1000000 in
theorem setnum_no {i k u X : Int} (h : St w p tp g xs cs) (h1 : i ≤ 9223372036854775807) (hX : slX xs cs i k true = X) (hx : ¬ X = 0) :
    Calls Tryz.prog 65 #[stV p tp, .int .i64 i, .int .i64 k, .int .i64 u] w fun e w' => e = .returned (.int .i64 X) ∧ Grow w w' := by
  have HP := hide (show slP xs cs i k true = 0 by simp [slP, hX, hx])
  have HX := hide hX
  have H := hide h
  have hx' : (X != 0) = true := by simpa using hx
  clear h hX
  obtain ⟨hs, cc, fs⟩ := boxes1 w 32 [.pointer p, .pointer tp]
  go_enter Tryz.func65, Tryz.ntmps65
  go_wp2_with fail
  generalize w.alloc (.cells #[.pointer p, .pointer tp] 32) = w3 at *
  generalize w.heap.size = s at *
  refine (numat_is (H.out.grow cc) h1 HP.out HX.out).mono ?_
  rintro e w4 ⟨rfl, c_w4⟩
  replace hs := hs.chg c_w4 id
  replace cc := cc.step c_w4 (fun _ _ h => h.elim)
  clear c_w4 
  go_wp2
  go_ret
  exact ⟨rfl, cc⟩
set_option maxHeartbeats 1000000 in
theorem setnum_in {i k P u : Int} (h : St w p tp g xs cs) (h1 : i ≤ 9223372036854775807) (hX : slX xs cs i k true = 0) (hP : slP xs cs i k true = P) :
    Calls Tryz.prog 65 #[stV p tp, .int .i64 i, .int .i64 k, .int .i64 u] w fun e w' => e = .returned (.int .i64 0) ∧ St w' p tp g (xs.set P.toNat u) cs ∧ Chg (· = g) w w' := by
  have hn := h.n
  have hb := sl_bd h.rt hX
  rw [hP] at hb
  have HX := hide hX
  have HP := hide hP
  obtain ⟨K, rfl⟩ := Int.eq_ofNat_of_zero_le (show 0 ≤ P by omega)
  have hk : K < xs.length := by omega
  obtain ⟨b, rfl, -⟩ : ∃ b, p = some ⟨b, 0, none⟩ ∧ Ar w b g xs := by
    rcases h.ar with ⟨_, rfl⟩ | ha
    · simp at hk
    · exact ha
  have H := hide h
  clear h hX hP hb
  obtain ⟨hs, cc, fs⟩ := boxes1 w 32 [.pointer (some ⟨b, 0, none⟩), .pointer tp]
  go_enter Tryz.func65, Tryz.ntmps65
  go_wp2_with fail
  generalize w.alloc (.cells #[.pointer (some ⟨b, 0, none⟩), .pointer tp] 32) = w3 at *
  generalize w.heap.size = s at *
  refine (numat_is (H.out.grow cc) h1 HP.out HX.out).mono ?_
  rintro e w4 ⟨rfl, c_w4⟩
  replace hs := hs.chg c_w4 id
  replace cc := cc.step c_w4 (fun _ _ h => h.elim)
  clear c_w4 
  obtain ⟨s0, s1⟩ := hs.cell2
  go_wp2_with fail
  have H4 := hide (H.out.grow cc)
  obtain ⟨ha⟩ : Nonempty (Ar w4 b g xs) := by
    rcases H4.out.ar with ⟨e, _⟩ | ⟨b', e, ha⟩
    · cases e
    · injection e with e; injection e with e; subst e; exact ⟨ha⟩
  refine (L1.store_ok b g xs K u w4 ha hn hk).mono ?_
  rintro e w5 ⟨rfl, ha5, c5⟩
  have H5 := hide (H4.out.put ha5 (by simp) c5)
  have c6 := (cc.mono (S := (· = g)) (fun _ _ h => h.elim)).trans c5
  clear ha ha5 c5 cc s0 s1 hs
  go_wp2
  go_ret
  exact ⟨rfl, H5.out, c6⟩
end
end Go.Proofs.YtogfjclmohpjkaaGreatDoor.L6
/- What Lay and Gap answer, and what they store. Conditions: the numbers given fit their kinds. -/
namespace Go.Proofs.YtogfjclmohpjkaaGreatDoor.L6
open Go.ChangeShapes Go.WideShapes Go.ChangeAt Go.RowKit
open Go.Proofs.YtogfjclmohpjkaaGreatDoor.L1 (Sl Ar ptr exB)
open Go.Proofs.YtogfjclmohpjkaaGreatDoor.L4 (hdV riB wd wdV wdX ofB ofC ofA ofF ofM ofN ofD ofV ofX set6)
open Go.Proofs.YtogfjclmohpjkaaGreatDoor.L5 (Cl clV rtB Tb clAt shX shR shD woV c0 IsCls newX)
set_option linter.unusedVariables false
set_option maxRecDepth 100000

section
variable {w w' : World} {p tp : Option Addr} {g : Nat} {xs ys : List Int} {cs : List Cl}
theorem words_is {n l V X : Int} {base : Nat} {v : Value} (h : Tb w base tp v cs) (hl : cs.length ≤ 100) (hall : cs.all Cl.rt = true) (hV : woV (clAt cs n) l = V) (hX : shX (clAt cs n) l = X) :
    Calls Tryz.prog 90 #[.pointer tp, .int .i64 n, .int .i64 l] w fun e w' => e = .returned (.tuple #[.int .i64 V, .int .i64 X]) ∧ Grow w w' :=
  L5.words_is h hl hall hV hX
theorem word_is {C A F V X : Int} {m f d : Bool} (w : World) (hV : wdV C A F m f d = V) (hX : wdX C A F f d = X) :
    Calls Tryz.prog 93 #[hdV C A F m f d] w fun e w' => e = .returned (.tuple #[.int .i64 V, .int .i64 X]) ∧ Grow w w' := by
  have h' := L4.word_any C A F m f d w
  rwa [hV, hX] at h'
theorem St.open_ {b : Nat} (h : St w (some ⟨b, 0, none⟩) tp g xs cs) : Ar w b g xs := by
  rcases h.ar with ⟨e, _⟩ | ⟨b', e, ha⟩
  · cases e
  · injection e with e; injection e with e; subst e; exact ha
theorem St.some_ (h : St w p tp g xs cs) (hk : 0 < xs.length) : ∃ b, p = some ⟨b, 0, none⟩ := by
  rcases h.ar with ⟨_, rfl⟩ | ⟨b, e, _⟩
  · simp at hk
  · exact ⟨b, e⟩

/-- The words behind Gap, behind Lay. -/
def gapL (xs : List Int) (a n : Nat) : List Int := if n = 1 then xs.set a 1024 else (xs.set a 0).set (a + 1) n
def layL (xs : List Int) (a n : Nat) (C l : Int) (f : Bool) : List Int := ((L1.fillTo xs a 0 n).set a (C + L4.b2i 2048 f)).set (a + 1) l
theorem store_is {b k : Nat} {i v : Int} (h : St w (some ⟨b, 0, none⟩) tp g xs cs) (hi : i = (k : Int)) (hk : k < xs.length) :
    Calls Tryz.prog 23 #[.pointer (some ⟨b, 0, none⟩), .int .i64 i, .int .i64 v] w fun e w' => e = .returned (.int .i64 0) ∧ St w' (some ⟨b, 0, none⟩) tp g (xs.set k v) cs ∧ Chg (· = g) w w' := by
  subst hi
  refine (L1.store_ok b g xs k v w h.open_ h.n hk).mono ?_
  rintro e w' ⟨he, ha, c⟩
  exact ⟨he, h.put ha (by simp) c, c⟩
theorem fill_is {b a m : Nat} {i n v : Int} (h : St w (some ⟨b, 0, none⟩) tp g xs cs) (hi : i = (a : Int)) (hn : n = (m : Int)) (hk : a + m ≤ xs.length) :
    Calls Tryz.prog 94 #[.pointer (some ⟨b, 0, none⟩), .int .i64 i, .int .i64 n, .int .i64 v] w fun e w' => e = .returned (.int .i64 0) ∧ St w' (some ⟨b, 0, none⟩) tp g (L1.fillTo xs a v m) cs ∧ Chg (· = g) w w' := by
  subst hi hn
  refine (L1.fill_ok b g xs a m v w h.open_ h.n hk).mono ?_
  rintro e w' ⟨he, ha, c⟩
  exact ⟨he, h.put ha (L1.fillTo_length _ _ _ _) c, c⟩
set_option maxHeartbeats 1000000 in
theorem lay_no {i C l X : Int} (h : St w p tp g xs cs) (hX : shX (clAt cs C) l = X) (hx : ¬ X = 0) :
    Calls Tryz.prog 62 #[stV p tp, .int .i64 i, .int .i64 C, .int .i64 l] w fun e w' => e = .returned (.int .i64 X) ∧ Grow w w' := by
  have HV := hide (show woV (clAt cs C) l = 0 by simp [woV, hX, hx])
  have HX := hide hX
  have H := hide h
  have hx' : (X != 0) = true := by simpa using hx
  clear h hX
  obtain ⟨hs, cc, fs⟩ := boxes1 w 32 [.pointer p, .pointer tp]
  go_enter Tryz.func62, Tryz.ntmps62
  go_wp2_with fail
  generalize w.alloc (.cells #[.pointer p, .pointer tp] 32) = w3 at *
  generalize w.heap.size = s at *
  obtain ⟨base, v, ht⟩ := (H.out.grow cc).tab
  refine (words_is ht H.out.cl H.out.rt HV.out HX.out).mono ?_
  rintro e w4 ⟨rfl, c_w4⟩
  replace hs := hs.chg c_w4 id
  replace cc := cc.step c_w4 (fun _ _ h => h.elim)
  clear c_w4 ht
  obtain ⟨s0, s1⟩ := hs.cell2
  clear s0 s1
  go_wp2
  go_ret
  exact ⟨rfl, cc⟩
set_option maxHeartbeats 2000000 in
theorem lay_ok {b a n k : Nat} {C l K R D : Int} {f : Bool} (h : St w (some ⟨b, 0, none⟩) tp g xs cs) (hc : cs[k]? = some ⟨K, R, D, f⟩) (hC : C = k + 1) (hX : shX (clAt cs C) l = 0) (hV : woV (clAt cs C) l = n) (hk : cs.length < 64) (h1 : 1 ≤ a) (hl : a + n ≤ xs.length) :
    Calls Tryz.prog 62 #[stV (some ⟨b, 0, none⟩) tp, .int .i64 a, .int .i64 C, .int .i64 l] w fun e w' => e = .returned (.int .i64 0) ∧ St w' (some ⟨b, 0, none⟩) tp g (layL xs a n C l f) cs ∧ Chg (· = g) w w' := by
  have hm := h.n
  have hkl : k < cs.length := (List.getElem?_eq_some_iff.1 hc).1
  have hn2 : 2 ≤ n := by
    have := L5.sh_bd (o := clAt cs C) (fun c hc => L5.clAt_rt h.rt hc) l
    rw [woV, if_pos hX] at hV
    omega
  have HB := hide (show oxB xs.length a n = true by simp [oxB]; omega)
  have HW := hide (show wdV C 0 0 false f false = C + L4.b2i 2048 f ∧ wdX C 0 0 f false = 0 by
    have hr : riB C 0 0 f false = true := L4.ri_mk (by omega) (by omega) (by decide) (by decide) (by decide) (by decide) (by simp)
    simp [wdV, wdX, hr, wd, L4.b2i])
  have HV := hide hV
  have HX := hide hX
  have HC := hide hc
  have HCC := hide hC
  have H := hide h
  have ngs0 := hide h.open_.2.lt
  have ngs1 : ¬ w.heap.size = g := by have := ngs0.out; omega
  clear h hX hV hc ngs0 hC
  obtain ⟨hs, cc, fs⟩ := boxes1 w 32 [.pointer (some ⟨b, 0, none⟩), .pointer tp]
  go_enter Tryz.func62, Tryz.ntmps62
  go_wp2_with fail
  generalize w.alloc (.cells #[.pointer (some ⟨b, 0, none⟩), .pointer tp] 32) = w3 at *
  generalize w.heap.size = s at *
  obtain ⟨base, v, ht⟩ := (H.out.grow cc).tab
  refine (words_is ht H.out.cl H.out.rt HV.out HX.out).mono ?_
  rintro e w4 ⟨rfl, c_w4⟩
  replace hs := hs.chg c_w4 id
  replace cc := cc.step c_w4 (fun _ _ h => h.elim)
  clear c_w4 ht
  obtain ⟨s0, s1⟩ := hs.cell2
  go_wp2_with fail
  clear s0 s1
  refine (exists_is (H.out.grow cc) (by omega) HB.out).mono ?_
  rintro e w5 ⟨rfl, c_w5⟩
  replace hs := hs.chg c_w5 id
  replace cc := cc.step c_w5 (fun _ _ h => h.elim)
  clear c_w5 
  obtain ⟨s0, s1⟩ := hs.cell2
  obtain ⟨base, v, ht⟩ := (H.out.grow cc).tab
  go_wp2_with fail
  clear s0 s1
  refine (L5.of_in ht H.out.cl HC.out HCC.out).mono ?_
  rintro e w6 ⟨rfl, c_w6⟩
  replace hs := hs.chg c_w6 id
  replace cc := cc.step c_w6 (fun _ _ h => h.elim)
  clear c_w6 ht
  have hx := Blk.new w6 82 [.int .i64 K, .int .i64 R, .int .i64 D, .bool f]
  replace hs := hs.alloc (.cells [.int .i64 K, .int .i64 R, .int .i64 D, .bool f].toArray 82)
  replace cc := cc.alloc (.cells [.int .i64 K, .int .i64 R, .int .i64 D, .bool f].toArray 82)
  obtain ⟨s0, s1⟩ := hs.cell2
  obtain ⟨x0, x1, x2, x3⟩ := hx.cell4
  go_wp2_with fail
  clear s0 s1 x0 x1 x2 x3
  refine (word_is _ HW.out.1 HW.out.2).mono ?_
  rintro e w7 ⟨rfl, c_w7⟩
  replace hs := hs.chg c_w7 id
  replace cc := cc.step c_w7 (fun _ _ h => h.elim)
  clear c_w7 
  have H7 := hide (H.out.grow cc)
  replace cc := cc.mono (S := (· = g)) (fun _ _ h => h.elim)
  obtain ⟨s0, s1⟩ := hs.cell2
  have ngs := ngs1
  go_wp2_with fail
  refine (fill_is H7.out rfl rfl hl).mono ?_
  rintro e w8 ⟨rfl, hst', c'⟩
  have H8 := hide hst'
  replace cc := cc.step c' (fun i hi e => e)
  replace hs := hs.chg c' ngs
  clear hst' c' s0 s1
  obtain ⟨s0, s1⟩ := hs.cell2
  go_wp2_with fail
  refine (store_is H8.out rfl (by rw [L1.fillTo_length]; omega)).mono ?_
  rintro e w9 ⟨rfl, hst', c'⟩
  have H9 := hide hst'
  replace cc := cc.step c' (fun i hi e => e)
  replace hs := hs.chg c' ngs
  clear hst' c' s0 s1
  obtain ⟨s0, s1⟩ := hs.cell2
  go_wp2_with fail
  refine (store_is (k := a + 1) H9.out (by simp) (by rw [List.length_set, L1.fillTo_length]; omega)).mono ?_
  rintro e wa ⟨rfl, hst', c'⟩
  have HA := hide hst'
  replace cc := cc.step c' (fun i hi e => e)
  replace hs := hs.chg c' ngs
  clear hst' c' s0 s1
  obtain ⟨s0, s1⟩ := hs.cell2
  go_wp2
  go_ret
  exact ⟨rfl, HA.out, cc⟩
end
end Go.Proofs.YtogfjclmohpjkaaGreatDoor.L6
/- What Walk answers; it changes nothing but makes new memory. Conditions: the addresses are numbers of 64 bits. -/
namespace Go.Proofs.YtogfjclmohpjkaaGreatDoor.L6
open Go.ChangeShapes Go.WideShapes Go.ChangeAt Go.RowKit
open Go.Proofs.YtogfjclmohpjkaaGreatDoor.L1 (Sl Ar ptr exB)
open Go.Proofs.YtogfjclmohpjkaaGreatDoor.L4 (hdV riB wd wdV wdX ofB ofC ofA ofF ofM ofN ofD ofV ofX set6)
open Go.Proofs.YtogfjclmohpjkaaGreatDoor.L5 (Cl clV rtB Tb clAt shX shR shD woV c0 IsCls newX)
set_option linter.unusedVariables false
set_option maxRecDepth 100000

section
variable {w w' : World} {p tp : Option Addr} {g : Nat} {xs ys : List Int} {cs : List Cl}
/-- From an address on up to another one these objects are walked through, with this error's number. -/
inductive Wk (xs : List Int) (cs : List Cl) (to : Int) : Int → List Int → Int → Prop
  | done (i : Int) (h : to ≤ i) : Wk xs cs to i [] 0
  | bad (i : Int) (h : i < to) (hx : ¬ fdX xs cs i = 0) : Wk xs cs to i [] (fdX xs cs i)
  | over (i : Int) (h : i < to) (hx : fdX xs cs i = 0) (hw : to - i < (fdT xs cs i).w) : Wk xs cs to i [] 12
  | gap (i : Int) (l : List Int) (e : Int) (h : i < to) (hx : fdX xs cs i = 0) (hw : (fdT xs cs i).w ≤ to - i) (hc : (fdT xs cs i).C = 0) (hr : Wk xs cs to (i + (fdT xs cs i).w) l e) : Wk xs cs to i l e
  | obj (i : Int) (l : List Int) (e : Int) (h : i < to) (hx : fdX xs cs i = 0) (hw : (fdT xs cs i).w ≤ to - i) (hc : ¬ (fdT xs cs i).C = 0) (hr : Wk xs cs to (i + (fdT xs cs i).w) l e) : Wk xs cs to i (i :: l) e
theorem Wk.inv {to i e : Int} {l : List Int} (h : Wk xs cs to i l e) :
    (to ≤ i ∧ l = [] ∧ e = 0) ∨ (i < to ∧ ¬ fdX xs cs i = 0 ∧ l = [] ∧ e = fdX xs cs i) ∨ (i < to ∧ fdX xs cs i = 0 ∧ to - i < (fdT xs cs i).w ∧ l = [] ∧ e = 12) ∨
      (i < to ∧ fdX xs cs i = 0 ∧ (fdT xs cs i).w ≤ to - i ∧ (fdT xs cs i).C = 0 ∧ Wk xs cs to (i + (fdT xs cs i).w) l e) ∨
      (i < to ∧ fdX xs cs i = 0 ∧ (fdT xs cs i).w ≤ to - i ∧ ¬ (fdT xs cs i).C = 0 ∧ ∃ l2, l = i :: l2 ∧ Wk xs cs to (i + (fdT xs cs i).w) l2 e) := by
  cases h with
  | done _ h => exact .inl ⟨h, rfl, rfl⟩
  | bad _ h hx => exact .inr (.inl ⟨h, hx, rfl, rfl⟩)
  | over _ h hx hw => exact .inr (.inr (.inl ⟨h, hx, hw, rfl, rfl⟩))
  | gap _ _ _ h hx hw hc hr => exact .inr (.inr (.inr (.inl ⟨h, hx, hw, hc, hr⟩)))
  | obj _ _ _ h hx hw hc hr => exact .inr (.inr (.inr (.inr ⟨h, hx, hw, hc, _, rfl, hr⟩)))
theorem fd_bd (hrt : cs.all Cl.rt = true) {i : Int} (h : fdX xs cs i = 0) : 1 ≤ i ∧ i < xs.length ∧ 1 ≤ (fdT xs cs i).w ∧ i + (fdT xs cs i).w ≤ xs.length := by
  have hb : fdB xs cs i = true := by
    unfold fdX at h
    split at h
    · split at h
      · assumption
      · exact absurd h (by decide)
    · exact absurd h (by decide)
  have ht : fdT xs cs i = woT xs cs i := by simp [fdT, hb]
  rw [ht]
  have hb' := hb
  simp only [fdB, Bool.and_eq_true] at hb'
  obtain ⟨h1, h2, h3, h4⟩ := hb'
  simp only [oxB, decide_eq_true_eq] at h1 h4
  refine ⟨by omega, by omega, ?_, by omega⟩
  unfold woT
  by_cases hs : ofC (gw xs i) = 0 ∧ ofM (gw xs i) = true
  · rw [(me_single hs).1]; exact Int.le_refl 1
  by_cases h2' : i + 1 < xs.length
  · by_cases hC : ofC (gw xs i) = 0
    · rw [(me_gap (A := ofA (gw xs i)) (F := ofF (gw xs i)) (f := ofN (gw xs i)) (d := ofD (gw xs i)) hs h2' hC).2] at h3
      rw [(me_gap hs h2' hC).1]
      simp only [decide_eq_true_eq] at h3
      dsimp only
      omega
    · rw [(me_obj h2' hC).1]
      have := L5.sh_bd (o := clAt cs (ofC (gw xs i))) (fun c hc => L5.clAt_rt hrt hc) (gw xs (i + 1))
      dsimp only
      omega
  · rw [(me_off (A := ofA (gw xs i)) (F := ofF (gw xs i)) (f := ofN (gw xs i)) (d := ofD (gw xs i)) hs h2').2] at h3
    cases h3
set_option maxHeartbeats 2000000 in
theorem walk_any (h : St w p tp g xs cs) (i to : Int) (l : List Int) (e : Int) (h1 : i ≤ 9223372036854775807) (h2 : to ≤ 9223372036854775807) (hw : Wk xs cs to i l e) :
    Calls Tryz.prog 22 #[stV p tp, .int .i64 i, .int .i64 to] w fun en w' => Grow w w' ∧ ((e = 0 ∧ ∃ v, en = .returned (.tuple #[v, .int .i64 0]) ∧ w'.ownsRow w.heap.size 3 1 v l.length (ints l)) ∨ (¬ e = 0 ∧ en = .returned (.tuple #[.slice none 0 0, .int .i64 e]))) := by
  obtain ⟨i0, hi0, hz0, hz1, hz2⟩ := info_parts Tryz.infoInt
  have HI := hide hi0
  have HZ0 := hide hz0
  have HZ1 := hide hz1
  have HZ2 := hide hz2
  clear hi0 hz0 hz1 hz2
  have hn := h.n
  have H := hide h
  have HWK0 := hide hw
  clear h hw
  obtain ⟨b0, hb0⟩ : ∃ b0, b0 = w.heap.size + 1 := ⟨_, rfl⟩
  have HB : Fresh w b0 := by show w.heap.size ≤ b0; omega
  have hb1 := hide (show b0 ≤ (w.alloc (.cells [.pointer p, .pointer tp].toArray 32)).heap.size by rw [World.size_alloc]; omega)
  have HSB := hide (show w.heap.size < b0 by omega)
  clear hb0
  obtain ⟨hs, cc, fs⟩ := boxes1 w 32 [.pointer p, .pointer tp]
  go_enter Tryz.func22, Tryz.ntmps22
  go_wp2_with fail
  generalize w.alloc (.cells #[.pointer p, .pointer tp] 32) = w3 at *
  generalize w.heap.size = s at *
  refine wp_scope_jumps 0 (fun a' W => Grow w W ∧ Blk W s 32 [.pointer p, .pointer tp] ∧ ∃ (c : Int) (acc l2 : List Int) (v : Value), W.ownsRow b0 3 1 v acc.length (ints acc) ∧ b0 ≤ W.heap.size ∧ Wk xs cs to c l2 e ∧ l = acc ++ l2 ∧ acc.length ≤ c.toNat ∧ c ≤ 9223372036854775807 ∧ ∃ u10 u11 u12 u13 u14 u15 u16 u17 u18 u19 u20 u21 u22 u23 u24 u25 u26 u27 u28 u29 u30 u31 u32 u33 u34 u35 u36 u37 u38 u39 u40 : Value, a' = { tmps := #[stV p tp, .int .i64 i, .int .i64 to, .pointer (some ⟨s, 0, none⟩), undef, undef, .slice none 0 0, .int .i64 0, v, .int .i64 c, u10, u11, u12, u13, u14, u15, u16, u17, u18, u19, u20, u21, u22, u23, u24, u25, u26, u27, u28, u29, u30, u31, u32, u33, u34, u35, u36, u37, u38, u39, u40], defers := [] }) (fun a' _ => (4097 - (intOf (a'.tmps.getD 9 undef))).toNat) rfl ?_ ?_
  · go_wp2_with fail
    go_step3
    have hown : w3.ownsRow b0 3 1 (.slice none 0 0) ([] : List Int).length (ints []) := World.ownsRow_nil w3 b0 3 1
    have hwk := HWK0.out
    have hl : l = [] ++ l := rfl
    have hsz := hb1.out
    have hlen : ([] : List Int).length ≤ i.toNat := Nat.zero_le _
    have hc1 := h1
    rcases hwk.inv with ⟨q1, q2, q3⟩ | ⟨q1, q2, q3, q4⟩ | ⟨q1, q2, q3, q4, q5⟩ | ⟨q1, q2, q3, q4, q5⟩ | ⟨q1, q2, q3, q4, l3, q5, q6⟩
    · have q1' : decide (i ≥ to) = true := by simpa using q1
      have HO := hide hown
      have HL := hide (show l = ([] : List Int) by rw [hl, q2]; simp)
      have HE := hide q3
      clear hown hl hwk
      as_aux_lemma =>
      go_wp2
      simp only [Exit.jump]
      go_returns
      exact ⟨cc, .inl ⟨HE.out, _, rfl, by rw [HL.out]; exact L5.own_base HO.out HB⟩⟩
    · have q1' : decide (i ≥ to) = false := by simp; omega
      obtain ⟨X, hX⟩ : ∃ X, fdX xs cs i = X := ⟨_, rfl⟩
      have HT := hide (fd_th0 q2)
      rw [hX] at q2 q4
      have HX := hide hX
      have HE := hide q4
      have hx' : (X != 0) = true := by simpa using q2
      have HQ := hide q2
      clear hown hl hwk hX q2 q4
      obtain ⟨s0, s1⟩ := hs.cell2
      as_aux_lemma =>
      go_wp2_with fail
      clear s0 s1
      refine (size_is (W := 0) (b := false) (H.out.grow cc) hc1 (by rw [HT.out]; rfl) (by rw [HT.out]; rfl) HX.out).mono ?_
      rintro e w5 ⟨rfl, c_w5⟩
      replace hs := hs.chg c_w5 id
      replace cc := cc.step c_w5 (fun _ _ h => h.elim)
      clear c_w5 
      go_wp2
      simp only [Exit.jump]
      go_returns
      exact ⟨cc, .inr ⟨by rw [HE.out]; exact HQ.out, by rw [HE.out]; rfl⟩⟩
    · have q1' : decide (i ≥ to) = false := by simp; omega
      have hb := fd_bd H.out.rt q2
      obtain ⟨Wd, hW⟩ : ∃ Wd, (fdT xs cs i).w = Wd := ⟨_, rfl⟩
      obtain ⟨bo, hB⟩ : ∃ bo, ((fdT xs cs i).C != 0) = bo := ⟨_, rfl⟩
      rw [hW] at q3 hb
      have HW := hide hW
      have HBo := hide hB
      have HX := hide q2
      have HE := hide q5
      have q3' : decide (Wd > to - i) = true := by simp; omega
      clear hown hl hwk hW hB q2 q5
      obtain ⟨s0, s1⟩ := hs.cell2
      as_aux_lemma =>
      go_wp2_with fail
      clear s0 s1
      refine (size_is (H.out.grow cc) hc1 HW.out HBo.out HX.out).mono ?_
      rintro e w5 ⟨rfl, c_w5⟩
      replace hs := hs.chg c_w5 id
      replace cc := cc.step c_w5 (fun _ _ h => h.elim)
      clear c_w5 
      go_wp2
      simp only [Exit.jump]
      go_returns
      exact ⟨cc, .inr ⟨by rw [HE.out]; decide, by rw [HE.out]; rfl⟩⟩
    · have q1' : decide (i ≥ to) = false := by simp; omega
      have hb := fd_bd H.out.rt q2
      have HB4 := hide (show ((fdT xs cs i).C != 0) = false by simpa using q4)
      obtain ⟨Wd, hW⟩ : ∃ Wd, (fdT xs cs i).w = Wd := ⟨_, rfl⟩
      rw [hW] at q3 q5 hb
      have HW := hide hW
      have HX := hide q2
      have q3' : decide (Wd > to - i) = false := by simp; omega
      have HWK := hide q5
      have HL := hide hl
      have HSZ := hide hsz
      clear hl hwk hW q2 q4 q5 hsz
      obtain ⟨s0, s1⟩ := hs.cell2
      as_aux_lemma =>
      go_wp2_with fail
      clear s0 s1
      refine (size_is (H.out.grow cc) hc1 HW.out HB4.out HX.out).mono ?_
      rintro e5 w5 ⟨rfl, c5⟩
      replace hs := hs.chg c5 id
      replace cc := cc.trans c5
      have HO := hide (own_grow hown c5)
      have HS5 := hide (Nat.le_trans HSZ.out c5.size)
      clear hown c5
      go_wp2
      go_step3
      exact ⟨rfl, ⟨cc, hs, i + Wd, ([] : List Int), l, .slice none 0 0, HO.out, HS5.out, HWK.out, HL.out, by omega, by omega, _, _, _, _, _, _, _, _, _, _, _, _, _, _, _, _, _, _, _, _, _, _, _, _, _, _, _, _, _, _, _, rfl⟩⟩
    · have q1' : decide (i ≥ to) = false := by simp; omega
      have hb := fd_bd H.out.rt q2
      have HB4 := hide (show ((fdT xs cs i).C != 0) = true by simpa using q4)
      obtain ⟨Wd, hW⟩ : ∃ Wd, (fdT xs cs i).w = Wd := ⟨_, rfl⟩
      rw [hW] at q3 q6 hb
      have HW := hide hW
      have HX := hide q2
      have q3' : decide (Wd > to - i) = false := by simp; omega
      have HWK := hide q6
      have HL := hide (show l = (([] : List Int) ++ [i]) ++ l3 by rw [hl, q5]; simp)
      have HSZ := hide hsz
      have HLEN := hide hlen
      clear hl hwk hW q2 q4 q5 q6 hsz hlen
      obtain ⟨s0, s1⟩ := hs.cell2
      as_aux_lemma =>
      go_wp2_with fail
      clear s0 s1
      refine (size_is (H.out.grow cc) hc1 HW.out HB4.out HX.out).mono ?_
      rintro e5 w5 ⟨rfl, c5⟩
      replace hs := hs.chg c5 id
      replace cc := cc.trans c5
      have HO := hide ((own_grow hown c5).alloc (.cells [.int .i64 i].toArray 3))
      have HS5 := hide (Nat.le_trans HSZ.out c5.size)
      clear hown c5
      have HBK := hide (Blk.new w5 3 [.int .i64 i])
      have HC := hide (cc.alloc (.cells [.int .i64 i].toArray 3))
      replace hs := hs.alloc (.cells [.int .i64 i].toArray 3)
      clear cc
      go_wp2_with (at_builtin; refine wpList_append_own _ rfl _ _ 37 rfl b0 3 i0 (.int .i64 0) 1 8 Tryz.underlying37 HI.out HZ0.out HZ1.out HZ2.out rfl (by decide) _ _ _ rfl HO.out ⟨w5.heap.size, 0, none⟩ 1 1 [.int .i64 i] rfl rfl ?c1 ?c2 ?c3 ?c4 ?c5 ?_)
      case c1 => intro j u hj; rw [addr_add, Nat.zero_add, HBK.out.cell]; exact hj
      case c2 => intro u hu; simp at hu; subst hu; rfl
      case c3 => have := HLEN.out; unfold maxLen; omega
      case c4 => have := HLEN.out; omega
      case c5 => rw [World.size_alloc]; have := HS5.out; omega
      intro v' w6 hown3 hgrow _
      have cc := Chg.grownOwn HC.out HO.out HB hgrow
      have hs6 := hs.grownOwn hgrow (by intro e; have := (HO.out.lt s e.symm).1; have := HSB.out; omega)
      have HO3 := hide hown3
      have HS6 := hide (show b0 ≤ w6.heap.size from Nat.le_trans (Nat.le_trans HS5.out (by rw [World.size_alloc]; omega)) hgrow.size)
      clear hgrow hown3 HC HO HBK hs
      go_wp2
      go_step3
      exact ⟨rfl, ⟨cc, hs6, i + Wd, ([] : List Int) ++ [i], l3, v', by have := HO3.out; simpa [ints] using this, HS6.out, HWK.out, HL.out, by have := HLEN.out; rw [List.length_append, List.length_singleton]; omega, by omega, _, _, _, _, _, _, _, _, _, _, _, _, _, _, _, _, _, _, _, _, _, _, _, _, _, _, _, _, _, _, _, rfl⟩⟩
  · rintro a' W ⟨cc, hs, c, acc, l2, v, hown, hsz, hwk, hl, hlen, hc1, u10, u11, u12, u13, u14, u15, u16, u17, u18, u19, u20, u21, u22, u23, u24, u25, u26, u27, u28, u29, u30, u31, u32, u33, u34, u35, u36, u37, u38, u39, u40, rfl⟩
    rcases hwk.inv with ⟨q1, q2, q3⟩ | ⟨q1, q2, q3, q4⟩ | ⟨q1, q2, q3, q4, q5⟩ | ⟨q1, q2, q3, q4, q5⟩ | ⟨q1, q2, q3, q4, l3, q5, q6⟩
    · have q1' : decide (c ≥ to) = true := by simpa using q1
      have HO := hide hown
      have HL := hide (show l = acc by rw [hl, q2]; simp)
      have HE := hide q3
      clear hown hl hwk
      as_aux_lemma =>
      go_wp2
      simp only [Exit.jump]
      go_returns
      exact ⟨cc, .inl ⟨HE.out, _, rfl, by rw [HL.out]; exact L5.own_base HO.out HB⟩⟩
    · have q1' : decide (c ≥ to) = false := by simp; omega
      obtain ⟨X, hX⟩ : ∃ X, fdX xs cs c = X := ⟨_, rfl⟩
      have HT := hide (fd_th0 q2)
      rw [hX] at q2 q4
      have HX := hide hX
      have HE := hide q4
      have hx' : (X != 0) = true := by simpa using q2
      have HQ := hide q2
      clear hown hl hwk hX q2 q4
      obtain ⟨s0, s1⟩ := hs.cell2
      as_aux_lemma =>
      go_wp2_with fail
      clear s0 s1
      refine (size_is (W := 0) (b := false) (H.out.grow cc) hc1 (by rw [HT.out]; rfl) (by rw [HT.out]; rfl) HX.out).mono ?_
      rintro e w5 ⟨rfl, c_w5⟩
      replace hs := hs.chg c_w5 id
      replace cc := cc.step c_w5 (fun _ _ h => h.elim)
      clear c_w5 
      go_wp2
      simp only [Exit.jump]
      go_returns
      exact ⟨cc, .inr ⟨by rw [HE.out]; exact HQ.out, by rw [HE.out]; rfl⟩⟩
    · have q1' : decide (c ≥ to) = false := by simp; omega
      have hb := fd_bd H.out.rt q2
      obtain ⟨Wd, hW⟩ : ∃ Wd, (fdT xs cs c).w = Wd := ⟨_, rfl⟩
      obtain ⟨bo, hB⟩ : ∃ bo, ((fdT xs cs c).C != 0) = bo := ⟨_, rfl⟩
      rw [hW] at q3 hb
      have HW := hide hW
      have HBo := hide hB
      have HX := hide q2
      have HE := hide q5
      have q3' : decide (Wd > to - c) = true := by simp; omega
      clear hown hl hwk hW hB q2 q5
      obtain ⟨s0, s1⟩ := hs.cell2
      as_aux_lemma =>
      go_wp2_with fail
      clear s0 s1
      refine (size_is (H.out.grow cc) hc1 HW.out HBo.out HX.out).mono ?_
      rintro e w5 ⟨rfl, c_w5⟩
      replace hs := hs.chg c_w5 id
      replace cc := cc.step c_w5 (fun _ _ h => h.elim)
      clear c_w5 
      go_wp2
      simp only [Exit.jump]
      go_returns
      exact ⟨cc, .inr ⟨by rw [HE.out]; decide, by rw [HE.out]; rfl⟩⟩
    · have q1' : decide (c ≥ to) = false := by simp; omega
      have hb := fd_bd H.out.rt q2
      have HB4 := hide (show ((fdT xs cs c).C != 0) = false by simpa using q4)
      obtain ⟨Wd, hW⟩ : ∃ Wd, (fdT xs cs c).w = Wd := ⟨_, rfl⟩
      rw [hW] at q3 q5 hb
      have HW := hide hW
      have HX := hide q2
      have q3' : decide (Wd > to - c) = false := by simp; omega
      have HWK := hide q5
      have HL := hide hl
      have HSZ := hide hsz
      clear hl hwk hW q2 q4 q5 hsz
      obtain ⟨s0, s1⟩ := hs.cell2
      as_aux_lemma =>
      go_wp2_with fail
      clear s0 s1
      refine (size_is (H.out.grow cc) hc1 HW.out HB4.out HX.out).mono ?_
      rintro e5 w5 ⟨rfl, c5⟩
      replace hs := hs.chg c5 id
      replace cc := cc.trans c5
      have HO := hide (own_grow hown c5)
      have HS5 := hide (Nat.le_trans HSZ.out c5.size)
      clear hown c5
      go_wp2
      go_step3
      exact ⟨rfl, ⟨cc, hs, c + Wd, acc, l2, v, HO.out, HS5.out, HWK.out, HL.out, by omega, by omega, _, _, _, _, _, _, _, _, _, _, _, _, _, _, _, _, _, _, _, _, _, _, _, _, _, _, _, _, _, _, _, rfl⟩, by simp [intOf]; omega⟩
    · have q1' : decide (c ≥ to) = false := by simp; omega
      have hb := fd_bd H.out.rt q2
      have HB4 := hide (show ((fdT xs cs c).C != 0) = true by simpa using q4)
      obtain ⟨Wd, hW⟩ : ∃ Wd, (fdT xs cs c).w = Wd := ⟨_, rfl⟩
      rw [hW] at q3 q6 hb
      have HW := hide hW
      have HX := hide q2
      have q3' : decide (Wd > to - c) = false := by simp; omega
      have HWK := hide q6
      have HL := hide (show l = (acc ++ [c]) ++ l3 by rw [hl, q5]; simp)
      have HSZ := hide hsz
      have HLEN := hide hlen
      clear hl hwk hW q2 q4 q5 q6 hsz hlen
      obtain ⟨s0, s1⟩ := hs.cell2
      as_aux_lemma =>
      go_wp2_with fail
      clear s0 s1
      refine (size_is (H.out.grow cc) hc1 HW.out HB4.out HX.out).mono ?_
      rintro e5 w5 ⟨rfl, c5⟩
      replace hs := hs.chg c5 id
      replace cc := cc.trans c5
      have HO := hide ((own_grow hown c5).alloc (.cells [.int .i64 c].toArray 3))
      have HS5 := hide (Nat.le_trans HSZ.out c5.size)
      clear hown c5
      have HBK := hide (Blk.new w5 3 [.int .i64 c])
      have HC := hide (cc.alloc (.cells [.int .i64 c].toArray 3))
      replace hs := hs.alloc (.cells [.int .i64 c].toArray 3)
      clear cc
      go_wp2_with (at_builtin; refine wpList_append_own _ rfl _ _ 37 rfl b0 3 i0 (.int .i64 0) 1 8 Tryz.underlying37 HI.out HZ0.out HZ1.out HZ2.out rfl (by decide) _ _ _ rfl HO.out ⟨w5.heap.size, 0, none⟩ 1 1 [.int .i64 c] rfl rfl ?c1 ?c2 ?c3 ?c4 ?c5 ?_)
      case c1 => intro j u hj; rw [addr_add, Nat.zero_add, HBK.out.cell]; exact hj
      case c2 => intro u hu; simp at hu; subst hu; rfl
      case c3 => have := HLEN.out; unfold maxLen; omega
      case c4 => have := HLEN.out; omega
      case c5 => rw [World.size_alloc]; have := HS5.out; omega
      intro v' w6 hown3 hgrow _
      have cc := Chg.grownOwn HC.out HO.out HB hgrow
      have hs6 := hs.grownOwn hgrow (by intro e; have := (HO.out.lt s e.symm).1; have := HSB.out; omega)
      have HO3 := hide hown3
      have HS6 := hide (show b0 ≤ w6.heap.size from Nat.le_trans (Nat.le_trans HS5.out (by rw [World.size_alloc]; omega)) hgrow.size)
      clear hgrow hown3 HC HO HBK hs
      go_wp2
      go_step3
      exact ⟨rfl, ⟨cc, hs6, c + Wd, acc ++ [c], l3, v', by have := HO3.out; simpa [ints] using this, HS6.out, HWK.out, HL.out, by have := HLEN.out; rw [List.length_append, List.length_singleton]; omega, by omega, _, _, _, _, _, _, _, _, _, _, _, _, _, _, _, _, _, _, _, _, _, _, _, _, _, _, _, _, _, _, _, rfl⟩, by simp [intOf]; omega⟩
end
end Go.Proofs.YtogfjclmohpjkaaGreatDoor.L6
