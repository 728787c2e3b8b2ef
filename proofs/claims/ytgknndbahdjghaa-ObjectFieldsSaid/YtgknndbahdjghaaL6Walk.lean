/- What Walk answers; it changes nothing but makes new memory. Conditions: the addresses are numbers of 64 bits. -/
import Derived.Test.YtgknndbahdjghaaL6Ask
import Derived.LoopTactic
import Derived.WalkMore
namespace Go.Proofs.Ytgknndbahdjghaa.L6
open Go.ChangeShapes Go.WideShapes Go.ChangeAt Go.RowKit
open Go.Proofs.Ytgknndbahdjghaa.L1 (Sl Ar ptr exB)
open Go.Proofs.Ytgknndbahdjghaa.L4 (hdV riB wd wdV wdX ofB ofC ofA ofF ofM ofN ofD ofV ofX set6)
open Go.Proofs.Ytgknndbahdjghaa.L5 (Cl clV rtB Tb clAt shX shR shD woV c0 IsCls newX)
set_option linter.unusedVariables false

section
variable {w w' : World} {p tp : Option Addr} {g : Nat} {xs ys : List Int} {cs : List Cl}
/-- From an address on up to another one these objects are walked through, with this error's number. -/
inductive Wk (xs : List Int) (cs : List Cl) (to : Int) : Int → List Int → Int → Prop
  | done (i : Int) (h : to ≤ i) : Wk xs cs to i [] 0
  | bad (i : Int) (h : i < to) (hx : ¬ fdX xs cs i = 0) : Wk xs cs to i [] (fdX xs cs i)
  | over (i : Int) (h : i < to) (hx : fdX xs cs i = 0) (hw : to - i < (fdT xs cs i).w) : Wk xs cs to i [] 12
  | gap (i : Int) (l : List Int) (e : Int) (h : i < to) (hx : fdX xs cs i = 0) (hw : (fdT xs cs i).w ≤ to - i) (hc : (fdT xs cs i).C = 0) (hr : Wk xs cs to (i + (fdT xs cs i).w) l e) : Wk xs cs to i l e
  | obj (i : Int) (l : List Int) (e : Int) (h : i < to) (hx : fdX xs cs i = 0) (hw : (fdT xs cs i).w ≤ to - i) (hc : ¬ (fdT xs cs i).C = 0) (hr : Wk xs cs to (i + (fdT xs cs i).w) l e) : Wk xs cs to i (i :: l) e
theorem Wk.inv {to i e : Int} {l : List Int} (h : Wk xs cs to i l e) :
    (to ≤ i ∧ l = [] ∧ e = 0) ∨ (i < to ∧ ¬ fdX xs cs i = 0 ∧ l = [] ∧ e = fdX xs cs i) ∨ (i < to ∧ fdX xs cs i = 0 ∧ to - i < (fdT xs cs i).w ∧ l = [] ∧ e = 12) ∨
      (i < to ∧ fdX xs cs i = 0 ∧ (fdT xs cs i).w ≤ to - i ∧ (fdT xs cs i).C = 0 ∧ Wk xs cs to (i + (fdT xs cs i).w) l e) ∨
      (i < to ∧ fdX xs cs i = 0 ∧ (fdT xs cs i).w ≤ to - i ∧ ¬ (fdT xs cs i).C = 0 ∧ ∃ l2, l = i :: l2 ∧ Wk xs cs to (i + (fdT xs cs i).w) l2 e) := by
  cases h with
  | done _ h => exact .inl ⟨h, rfl, rfl⟩
  | bad _ h hx => exact .inr (.inl ⟨h, hx, rfl, rfl⟩)
  | over _ h hx hw => exact .inr (.inr (.inl ⟨h, hx, hw, rfl, rfl⟩))
  | gap _ _ _ h hx hw hc hr => exact .inr (.inr (.inr (.inl ⟨h, hx, hw, hc, hr⟩)))
  | obj _ _ _ h hx hw hc hr => exact .inr (.inr (.inr (.inr ⟨h, hx, hw, hc, _, rfl, hr⟩)))
theorem fd_bd (hrt : cs.all Cl.rt = true) {i : Int} (h : fdX xs cs i = 0) : 1 ≤ i ∧ i < xs.length ∧ 1 ≤ (fdT xs cs i).w ∧ i + (fdT xs cs i).w ≤ xs.length := by
  have hb : fdB xs cs i = true := by
    unfold fdX at h
    split at h
    · split at h
      · assumption
      · exact absurd h (by decide)
    · exact absurd h (by decide)
  have ht : fdT xs cs i = woT xs cs i := by simp [fdT, hb]
  rw [ht]
  have hb' := hb
  simp only [fdB, Bool.and_eq_true] at hb'
  obtain ⟨h1, h2, h3, h4⟩ := hb'
  simp only [oxB, decide_eq_true_eq] at h1 h4
  refine ⟨by omega, by omega, ?_, by omega⟩
  unfold woT
  by_cases hs : ofC (gw xs i) = 0 ∧ ofM (gw xs i) = true
  · rw [(me_single hs).1]; exact Int.le_refl 1
  by_cases h2' : i + 1 < xs.length
  · by_cases hC : ofC (gw xs i) = 0
    · rw [(me_gap (A := ofA (gw xs i)) (F := ofF (gw xs i)) (f := ofN (gw xs i)) (d := ofD (gw xs i)) hs h2' hC).2] at h3
      rw [(me_gap hs h2' hC).1]
      simp only [decide_eq_true_eq] at h3
      dsimp only
      omega
    · rw [(me_obj h2' hC).1]
      have := L5.sh_bd (o := clAt cs (ofC (gw xs i))) (fun c hc => L5.clAt_rt hrt hc) (gw xs (i + 1))
      dsimp only
      omega
  · rw [(me_off (A := ofA (gw xs i)) (F := ofF (gw xs i)) (f := ofN (gw xs i)) (d := ofD (gw xs i)) hs h2').2] at h3
    cases h3
set_option maxHeartbeats 2000000 in
theorem walk_any (h : St w p tp g xs cs) (i to : Int) (l : List Int) (e : Int) (h1 : i ≤ 9223372036854775807) (h2 : to ≤ 9223372036854775807) (hw : Wk xs cs to i l e) :
    Calls Try.prog 15 #[stV p tp, .int .i64 i, .int .i64 to] w fun en w' => Grow w w' ∧ ((e = 0 ∧ ∃ v, en = .returned (.tuple #[v, .int .i64 0]) ∧ w'.ownsRow w.heap.size 3 1 v l.length (ints l)) ∨ (¬ e = 0 ∧ en = .returned (.tuple #[.slice none 0 0, .int .i64 e]))) := by
  obtain ⟨i0, hi0, hz0, hz1, hz2⟩ := info_parts Try.infoInt
  have HI := hide hi0
  have HZ0 := hide hz0
  have HZ1 := hide hz1
  have HZ2 := hide hz2
  clear hi0 hz0 hz1 hz2
  have hn := h.n
  have H := hide h
  have HWK0 := hide hw
  clear h hw
  obtain ⟨b0, hb0⟩ : ∃ b0, b0 = w.heap.size + 1 := ⟨_, rfl⟩
  have HB : Fresh w b0 := by show w.heap.size ≤ b0; omega
  have hb1 := hide (show b0 ≤ (w.alloc (.cells [.pointer p, .pointer tp].toArray 28)).heap.size by rw [World.size_alloc]; omega)
  have HSB := hide (show w.heap.size < b0 by omega)
  clear hb0
  obtain ⟨hs, cc, fs⟩ := boxes1 w 28 [.pointer p, .pointer tp]
  go_enter Try.func15, Try.ntmps15
  go_wp2_with fail
  generalize w.alloc (.cells #[.pointer p, .pointer tp] 28) = w3 at *
  generalize w.heap.size = s at *
  refine wp_scope_jumps 0 (fun a' W => Grow w W ∧ Blk W s 28 [.pointer p, .pointer tp] ∧ ∃ (c : Int) (acc l2 : List Int) (v : Value), W.ownsRow b0 3 1 v acc.length (ints acc) ∧ b0 ≤ W.heap.size ∧ Wk xs cs to c l2 e ∧ l = acc ++ l2 ∧ acc.length ≤ c.toNat ∧ c ≤ 9223372036854775807 ∧ ∃ u10 u11 u12 u13 u14 u15 u16 u17 u18 u19 u20 u21 u22 u23 u24 u25 u26 u27 u28 u29 u30 u31 u32 u33 u34 u35 u36 u37 u38 u39 u40 : Value, a' = { tmps := #[stV p tp, .int .i64 i, .int .i64 to, .pointer (some ⟨s, 0, none⟩), undef, undef, .slice none 0 0, .int .i64 0, v, .int .i64 c, u10, u11, u12, u13, u14, u15, u16, u17, u18, u19, u20, u21, u22, u23, u24, u25, u26, u27, u28, u29, u30, u31, u32, u33, u34, u35, u36, u37, u38, u39, u40], defers := [] }) (fun a' _ => (4097 - (intOf (a'.tmps.getD 9 undef))).toNat) rfl ?_ ?_
  · go_wp2_with fail
    go_step3
    have hown : w3.ownsRow b0 3 1 (.slice none 0 0) ([] : List Int).length (ints []) := World.ownsRow_nil w3 b0 3 1
    have hwk := HWK0.out
    have hl : l = [] ++ l := rfl
    have hsz := hb1.out
    have hlen : ([] : List Int).length ≤ i.toNat := Nat.zero_le _
    have hc1 := h1
    rcases hwk.inv with ⟨q1, q2, q3⟩ | ⟨q1, q2, q3, q4⟩ | ⟨q1, q2, q3, q4, q5⟩ | ⟨q1, q2, q3, q4, q5⟩ | ⟨q1, q2, q3, q4, l3, q5, q6⟩
    · have q1' : decide (i ≥ to) = true := by simpa using q1
      have HO := hide hown
      have HL := hide (show l = ([] : List Int) by rw [hl, q2]; simp)
      have HE := hide q3
      clear hown hl hwk
      as_aux_lemma =>
      go_wp2
      simp only [Exit.jump]
      go_returns
      exact ⟨cc, .inl ⟨HE.out, _, rfl, by rw [HL.out]; exact L5.own_base HO.out HB⟩⟩
    · have q1' : decide (i ≥ to) = false := by simp; omega
      obtain ⟨X, hX⟩ : ∃ X, fdX xs cs i = X := ⟨_, rfl⟩
      have HT := hide (fd_th0 q2)
      rw [hX] at q2 q4
      have HX := hide hX
      have HE := hide q4
      have hx' : (X != 0) = true := by simpa using q2
      have HQ := hide q2
      clear hown hl hwk hX q2 q4
      obtain ⟨s0, s1⟩ := hs.cell2
      as_aux_lemma =>
      go_wp2_with fail
      clear s0 s1
      refine (size_is (W := 0) (b := false) (H.out.grow cc) hc1 (by rw [HT.out]; rfl) (by rw [HT.out]; rfl) HX.out).mono ?_
      rintro e w5 ⟨rfl, c_w5⟩
      replace hs := hs.chg c_w5 id
      replace cc := cc.step c_w5 (fun _ _ h => h.elim)
      clear c_w5 
      go_wp2
      simp only [Exit.jump]
      go_returns
      exact ⟨cc, .inr ⟨by rw [HE.out]; exact HQ.out, by rw [HE.out]; rfl⟩⟩
    · have q1' : decide (i ≥ to) = false := by simp; omega
      have hb := fd_bd H.out.rt q2
      obtain ⟨Wd, hW⟩ : ∃ Wd, (fdT xs cs i).w = Wd := ⟨_, rfl⟩
      obtain ⟨bo, hB⟩ : ∃ bo, ((fdT xs cs i).C != 0) = bo := ⟨_, rfl⟩
      rw [hW] at q3 hb
      have HW := hide hW
      have HBo := hide hB
      have HX := hide q2
      have HE := hide q5
      have q3' : decide (Wd > to - i) = true := by simp; omega
      clear hown hl hwk hW hB q2 q5
      obtain ⟨s0, s1⟩ := hs.cell2
      as_aux_lemma =>
      go_wp2_with fail
      clear s0 s1
      refine (size_is (H.out.grow cc) hc1 HW.out HBo.out HX.out).mono ?_
      rintro e w5 ⟨rfl, c_w5⟩
      replace hs := hs.chg c_w5 id
      replace cc := cc.step c_w5 (fun _ _ h => h.elim)
      clear c_w5 
      go_wp2
      simp only [Exit.jump]
      go_returns
      exact ⟨cc, .inr ⟨by rw [HE.out]; decide, by rw [HE.out]; rfl⟩⟩
    · have q1' : decide (i ≥ to) = false := by simp; omega
      have hb := fd_bd H.out.rt q2
      have HB4 := hide (show ((fdT xs cs i).C != 0) = false by simpa using q4)
      obtain ⟨Wd, hW⟩ : ∃ Wd, (fdT xs cs i).w = Wd := ⟨_, rfl⟩
      rw [hW] at q3 q5 hb
      have HW := hide hW
      have HX := hide q2
      have q3' : decide (Wd > to - i) = false := by simp; omega
      have HWK := hide q5
      have HL := hide hl
      have HSZ := hide hsz
      clear hl hwk hW q2 q4 q5 hsz
      obtain ⟨s0, s1⟩ := hs.cell2
      as_aux_lemma =>
      go_wp2_with fail
      clear s0 s1
      refine (size_is (H.out.grow cc) hc1 HW.out HB4.out HX.out).mono ?_
      rintro e5 w5 ⟨rfl, c5⟩
      replace hs := hs.chg c5 id
      replace cc := cc.trans c5
      have HO := hide (own_grow hown c5)
      have HS5 := hide (Nat.le_trans HSZ.out c5.size)
      clear hown c5
      go_wp2
      go_step3
      exact ⟨rfl, ⟨cc, hs, i + Wd, ([] : List Int), l, .slice none 0 0, HO.out, HS5.out, HWK.out, HL.out, by omega, by omega, _, _, _, _, _, _, _, _, _, _, _, _, _, _, _, _, _, _, _, _, _, _, _, _, _, _, _, _, _, _, _, rfl⟩⟩
    · have q1' : decide (i ≥ to) = false := by simp; omega
      have hb := fd_bd H.out.rt q2
      have HB4 := hide (show ((fdT xs cs i).C != 0) = true by simpa using q4)
      obtain ⟨Wd, hW⟩ : ∃ Wd, (fdT xs cs i).w = Wd := ⟨_, rfl⟩
      rw [hW] at q3 q6 hb
      have HW := hide hW
      have HX := hide q2
      have q3' : decide (Wd > to - i) = false := by simp; omega
      have HWK := hide q6
      have HL := hide (show l = (([] : List Int) ++ [i]) ++ l3 by rw [hl, q5]; simp)
      have HSZ := hide hsz
      have HLEN := hide hlen
      clear hl hwk hW q2 q4 q5 q6 hsz hlen
      obtain ⟨s0, s1⟩ := hs.cell2
      as_aux_lemma =>
      go_wp2_with fail
      clear s0 s1
      refine (size_is (H.out.grow cc) hc1 HW.out HB4.out HX.out).mono ?_
      rintro e5 w5 ⟨rfl, c5⟩
      replace hs := hs.chg c5 id
      replace cc := cc.trans c5
      have HO := hide ((own_grow hown c5).alloc (.cells [.int .i64 i].toArray 3))
      have HS5 := hide (Nat.le_trans HSZ.out c5.size)
      clear hown c5
      have HBK := hide (Blk.new w5 3 [.int .i64 i])
      have HC := hide (cc.alloc (.cells [.int .i64 i].toArray 3))
      replace hs := hs.alloc (.cells [.int .i64 i].toArray 3)
      clear cc
      go_wp2_with (at_builtin; refine wpList_append_own _ rfl _ _ 34 rfl b0 3 i0 (.int .i64 0) 1 8 Try.underlying34 HI.out HZ0.out HZ1.out HZ2.out rfl (by decide) _ _ _ rfl HO.out ⟨w5.heap.size, 0, none⟩ 1 1 [.int .i64 i] rfl rfl ?c1 ?c2 ?c3 ?c4 ?c5 ?_)
      case c1 => intro j u hj; rw [addr_add, Nat.zero_add, HBK.out.cell]; exact hj
      case c2 => intro u hu; simp at hu; subst hu; rfl
      case c3 => have := HLEN.out; unfold maxLen; omega
      case c4 => have := HLEN.out; omega
      case c5 => rw [World.size_alloc]; have := HS5.out; omega
      intro v' w6 hown3 hgrow _
      have cc := Chg.grownOwn HC.out HO.out HB hgrow
      have hs6 := hs.grownOwn hgrow (by intro e; have := (HO.out.lt s e.symm).1; have := HSB.out; omega)
      have HO3 := hide hown3
      have HS6 := hide (show b0 ≤ w6.heap.size from Nat.le_trans (Nat.le_trans HS5.out (by rw [World.size_alloc]; omega)) hgrow.size)
      clear hgrow hown3 HC HO HBK hs
      go_wp2
      go_step3
      exact ⟨rfl, ⟨cc, hs6, i + Wd, ([] : List Int) ++ [i], l3, v', by have := HO3.out; simpa [ints] using this, HS6.out, HWK.out, HL.out, by have := HLEN.out; rw [List.length_append, List.length_singleton]; omega, by omega, _, _, _, _, _, _, _, _, _, _, _, _, _, _, _, _, _, _, _, _, _, _, _, _, _, _, _, _, _, _, _, rfl⟩⟩
  · rintro a' W ⟨cc, hs, c, acc, l2, v, hown, hsz, hwk, hl, hlen, hc1, u10, u11, u12, u13, u14, u15, u16, u17, u18, u19, u20, u21, u22, u23, u24, u25, u26, u27, u28, u29, u30, u31, u32, u33, u34, u35, u36, u37, u38, u39, u40, rfl⟩
    rcases hwk.inv with ⟨q1, q2, q3⟩ | ⟨q1, q2, q3, q4⟩ | ⟨q1, q2, q3, q4, q5⟩ | ⟨q1, q2, q3, q4, q5⟩ | ⟨q1, q2, q3, q4, l3, q5, q6⟩
    · have q1' : decide (c ≥ to) = true := by simpa using q1
      have HO := hide hown
      have HL := hide (show l = acc by rw [hl, q2]; simp)
      have HE := hide q3
      clear hown hl hwk
      as_aux_lemma =>
      go_wp2
      simp only [Exit.jump]
      go_returns
      exact ⟨cc, .inl ⟨HE.out, _, rfl, by rw [HL.out]; exact L5.own_base HO.out HB⟩⟩
    · have q1' : decide (c ≥ to) = false := by simp; omega
      obtain ⟨X, hX⟩ : ∃ X, fdX xs cs c = X := ⟨_, rfl⟩
      have HT := hide (fd_th0 q2)
      rw [hX] at q2 q4
      have HX := hide hX
      have HE := hide q4
      have hx' : (X != 0) = true := by simpa using q2
      have HQ := hide q2
      clear hown hl hwk hX q2 q4
      obtain ⟨s0, s1⟩ := hs.cell2
      as_aux_lemma =>
      go_wp2_with fail
      clear s0 s1
      refine (size_is (W := 0) (b := false) (H.out.grow cc) hc1 (by rw [HT.out]; rfl) (by rw [HT.out]; rfl) HX.out).mono ?_
      rintro e w5 ⟨rfl, c_w5⟩
      replace hs := hs.chg c_w5 id
      replace cc := cc.step c_w5 (fun _ _ h => h.elim)
      clear c_w5 
      go_wp2
      simp only [Exit.jump]
      go_returns
      exact ⟨cc, .inr ⟨by rw [HE.out]; exact HQ.out, by rw [HE.out]; rfl⟩⟩
    · have q1' : decide (c ≥ to) = false := by simp; omega
      have hb := fd_bd H.out.rt q2
      obtain ⟨Wd, hW⟩ : ∃ Wd, (fdT xs cs c).w = Wd := ⟨_, rfl⟩
      obtain ⟨bo, hB⟩ : ∃ bo, ((fdT xs cs c).C != 0) = bo := ⟨_, rfl⟩
      rw [hW] at q3 hb
      have HW := hide hW
      have HBo := hide hB
      have HX := hide q2
      have HE := hide q5
      have q3' : decide (Wd > to - c) = true := by simp; omega
      clear hown hl hwk hW hB q2 q5
      obtain ⟨s0, s1⟩ := hs.cell2
      as_aux_lemma =>
      go_wp2_with fail
      clear s0 s1
      refine (size_is (H.out.grow cc) hc1 HW.out HBo.out HX.out).mono ?_
      rintro e w5 ⟨rfl, c_w5⟩
      replace hs := hs.chg c_w5 id
      replace cc := cc.step c_w5 (fun _ _ h => h.elim)
      clear c_w5 
      go_wp2
      simp only [Exit.jump]
      go_returns
      exact ⟨cc, .inr ⟨by rw [HE.out]; decide, by rw [HE.out]; rfl⟩⟩
    · have q1' : decide (c ≥ to) = false := by simp; omega
      have hb := fd_bd H.out.rt q2
      have HB4 := hide (show ((fdT xs cs c).C != 0) = false by simpa using q4)
      obtain ⟨Wd, hW⟩ : ∃ Wd, (fdT xs cs c).w = Wd := ⟨_, rfl⟩
      rw [hW] at q3 q5 hb
      have HW := hide hW
      have HX := hide q2
      have q3' : decide (Wd > to - c) = false := by simp; omega
      have HWK := hide q5
      have HL := hide hl
      have HSZ := hide hsz
      clear hl hwk hW q2 q4 q5 hsz
      obtain ⟨s0, s1⟩ := hs.cell2
      as_aux_lemma =>
      go_wp2_with fail
      clear s0 s1
      refine (size_is (H.out.grow cc) hc1 HW.out HB4.out HX.out).mono ?_
      rintro e5 w5 ⟨rfl, c5⟩
      replace hs := hs.chg c5 id
      replace cc := cc.trans c5
      have HO := hide (own_grow hown c5)
      have HS5 := hide (Nat.le_trans HSZ.out c5.size)
      clear hown c5
      go_wp2
      go_step3
      exact ⟨rfl, ⟨cc, hs, c + Wd, acc, l2, v, HO.out, HS5.out, HWK.out, HL.out, by omega, by omega, _, _, _, _, _, _, _, _, _, _, _, _, _, _, _, _, _, _, _, _, _, _, _, _, _, _, _, _, _, _, _, rfl⟩, by simp [intOf]; omega⟩
    · have q1' : decide (c ≥ to) = false := by simp; omega
      have hb := fd_bd H.out.rt q2
      have HB4 := hide (show ((fdT xs cs c).C != 0) = true by simpa using q4)
      obtain ⟨Wd, hW⟩ : ∃ Wd, (fdT xs cs c).w = Wd := ⟨_, rfl⟩
      rw [hW] at q3 q6 hb
      have HW := hide hW
      have HX := hide q2
      have q3' : decide (Wd > to - c) = false := by simp; omega
      have HWK := hide q6
      have HL := hide (show l = (acc ++ [c]) ++ l3 by rw [hl, q5]; simp)
      have HSZ := hide hsz
      have HLEN := hide hlen
      clear hl hwk hW q2 q4 q5 q6 hsz hlen
      obtain ⟨s0, s1⟩ := hs.cell2
      as_aux_lemma =>
      go_wp2_with fail
      clear s0 s1
      refine (size_is (H.out.grow cc) hc1 HW.out HB4.out HX.out).mono ?_
      rintro e5 w5 ⟨rfl, c5⟩
      replace hs := hs.chg c5 id
      replace cc := cc.trans c5
      have HO := hide ((own_grow hown c5).alloc (.cells [.int .i64 c].toArray 3))
      have HS5 := hide (Nat.le_trans HSZ.out c5.size)
      clear hown c5
      have HBK := hide (Blk.new w5 3 [.int .i64 c])
      have HC := hide (cc.alloc (.cells [.int .i64 c].toArray 3))
      replace hs := hs.alloc (.cells [.int .i64 c].toArray 3)
      clear cc
      go_wp2_with (at_builtin; refine wpList_append_own _ rfl _ _ 34 rfl b0 3 i0 (.int .i64 0) 1 8 Try.underlying34 HI.out HZ0.out HZ1.out HZ2.out rfl (by decide) _ _ _ rfl HO.out ⟨w5.heap.size, 0, none⟩ 1 1 [.int .i64 c] rfl rfl ?c1 ?c2 ?c3 ?c4 ?c5 ?_)
      case c1 => intro j u hj; rw [addr_add, Nat.zero_add, HBK.out.cell]; exact hj
      case c2 => intro u hu; simp at hu; subst hu; rfl
      case c3 => have := HLEN.out; unfold maxLen; omega
      case c4 => have := HLEN.out; omega
      case c5 => rw [World.size_alloc]; have := HS5.out; omega
      intro v' w6 hown3 hgrow _
      have cc := Chg.grownOwn HC.out HO.out HB hgrow
      have hs6 := hs.grownOwn hgrow (by intro e; have := (HO.out.lt s e.symm).1; have := HSB.out; omega)
      have HO3 := hide hown3
      have HS6 := hide (show b0 ≤ w6.heap.size from Nat.le_trans (Nat.le_trans HS5.out (by rw [World.size_alloc]; omega)) hgrow.size)
      clear hgrow hown3 HC HO HBK hs
      go_wp2
      go_step3
      exact ⟨rfl, ⟨cc, hs6, c + Wd, acc ++ [c], l3, v', by have := HO3.out; simpa [ints] using this, HS6.out, HWK.out, HL.out, by have := HLEN.out; rw [List.length_append, List.length_singleton]; omega, by omega, _, _, _, _, _, _, _, _, _, _, _, _, _, _, _, _, _, _, _, _, _, _, _, _, _, _, _, _, _, _, _, rfl⟩, by simp [intOf]; omega⟩
end
end Go.Proofs.Ytgknndbahdjghaa.L6
