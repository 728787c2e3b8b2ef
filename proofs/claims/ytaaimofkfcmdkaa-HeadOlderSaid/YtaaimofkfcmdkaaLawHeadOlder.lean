/- For every head and number of times HeadOlder answers true: an object grows older by one, up to MaxAge, and nothing else of it changes. Conditions: none. -/
import Derived.Test.YtaaimofkfcmdkaaBack
import Derived.LoopTactic
import Derived.ShutString
namespace Go.Proofs.Ytaaimofkfcmdkaa.headOlder
open Go.ChangeShapes Go.WideShapes Go.ChangeAt Go.RowKit
set_option linter.unusedVariables false

def agN (A : Int) (k : Nat) : Int := if A + k ≤ 7 then A + k else 7
theorem ag_0 {A : Int} (h : A ≤ 7) : agN A 0 = A := by unfold agN; split <;> omega
theorem ag_succ {A : Int} (h : 0 ≤ A) (k : Nat) : olA (agN A k) = agN A (k + 1) := by unfold olA agN; split <;> split <;> split <;> omega
theorem ag_bd {A : Int} (h : 0 ≤ A) (k : Nat) : 0 ≤ agN A k ∧ agN A k ≤ 7 := by unfold agN; split <;> omega
def Inv (C A F : Int) (m f d : Bool) (w : World) (p x k : Nat) (wr : World) : Prop :=
  Blk wr p 23 [.int .i64 C, .int .i64 A, .int .i64 F, .bool m, .bool f, .bool d] ∧ Blk wr x 25 [.int .i64 C, .int .i64 (agN A k), .int .i64 F, .bool m, .bool f, .bool d] ∧ Grow w wr

set_option maxHeartbeats 2000000 in
set_option maxRecDepth 100000 in
theorem walk_no (C A F n : Int) (m f d : Bool) (w : World) (hr : riB C A F f d = false) :
    Calls Try.prog 6 #[hdV C A F m f d, .int .u8 n] w fun e w' => e = .returned (.bool true) ∧ Below w.heap.size w w' := by
  have hp := Blk.new w 23 [.int .i64 C, .int .i64 A, .int .i64 F, .bool m, .bool f, .bool d]
  have cp := Grow.box w (.cells [.int .i64 C, .int .i64 A, .int .i64 F, .bool m, .bool f, .bool d].toArray 23)
  have HR := hide hr
  clear hr
  go_enter Try.func6, Try.ntmps6
  go_wp2_with fail
  generalize w.alloc (.cells #[.int .i64 C, .int .i64 A, .int .i64 F, .bool m, .bool f, .bool d] 23) = wp at *
  obtain ⟨p, hP⟩ : ∃ p, p = w.heap.size := ⟨_, rfl⟩
  rw [← hP] at hp ⊢
  clear hP
  refine (awake_any _).mono ?_
  rintro e wa ⟨rfl, c_wa⟩
  replace hp := hp.chg c_wa id
  replace cp := cp.step c_wa (fun _ _ h => h.elim)
  clear c_wa 
  obtain ⟨p0, p1, p2, p3, p4, p5⟩ := hp.cell6
  go_wp2_with fail
  clear p0 p1 p2 p3 p4 p5
  refine (rright_is _ HR.out).mono ?_
  rintro e w1 ⟨rfl, c_w1⟩
  replace hp := hp.chg c_w1 id
  replace cp := cp.step c_w1 (fun _ _ h => h.elim)
  clear c_w1 
  go_wp2_with fail
  refine (awake_any _).mono ?_
  rintro e w2 ⟨rfl, c_w2⟩
  replace hp := hp.chg c_w2 id
  replace cp := cp.step c_w2 (fun _ _ h => h.elim)
  clear c_w2 
  go_wp2
  go_ret
  exact ⟨rfl, cp.below (fun _ _ h => h) (Nat.le_refl _)⟩
set_option maxHeartbeats 2000000 in
set_option maxRecDepth 100000 in
theorem walk_yes (C A F : Int) (n : Nat) (m f d : Bool) (w : World) (hr : riB C A F f d = true) (hn : n ≤ 255) :
    Calls Try.prog 6 #[hdV C A F m f d, .int .u8 n] w fun e w' => e = .returned (.bool true) ∧ Below w.heap.size w w' := by
  obtain ⟨b1, b2, b3, b4, b5, b6, b7⟩ := ri_true hr
  have kmin : ∀ (ts : Array TypeId) (t : TypeId) (W : World), (Builtin.min_ ts t #[.int .i64 7, .int .i64 (A + n)]).run Try.prog W = .ok (.int .i64 (agN A n)) W := by
    intro ts t W
    rw [run_min_int2]; congr 2; unfold agN; split <;> split <;> omega
  have hrn : riB C (agN A n) F f d = true := ri_mk b1 b2 (ag_bd b3 n).1 (ag_bd b3 n).2 b5 b6 b7
  have HRN := hide hrn
  clear hrn
  have KM := hide kmin
  clear kmin
  have B7 := hide b7
  clear b7
  have hp := Blk.new w 23 [.int .i64 C, .int .i64 A, .int .i64 F, .bool m, .bool f, .bool d]
  have cp := Grow.box w (.cells [.int .i64 C, .int .i64 A, .int .i64 F, .bool m, .bool f, .bool d].toArray 23)
  have HR := hide hr
  clear hr
  go_enter Try.func6, Try.ntmps6
  go_wp2_with fail
  generalize w.alloc (.cells #[.int .i64 C, .int .i64 A, .int .i64 F, .bool m, .bool f, .bool d] 23) = wp at *
  obtain ⟨p, hP⟩ : ∃ p, p = w.heap.size := ⟨_, rfl⟩
  rw [← hP] at hp ⊢
  clear hP
  refine (awake_any _).mono ?_
  rintro e wa ⟨rfl, c_wa⟩
  replace hp := hp.chg c_wa id
  replace cp := cp.step c_wa (fun _ _ h => h.elim)
  clear c_wa 
  obtain ⟨p0, p1, p2, p3, p4, p5⟩ := hp.cell6
  go_wp2_with fail
  clear p0 p1 p2 p3 p4 p5
  refine (rright_is _ HR.out).mono ?_
  rintro e w1 ⟨rfl, c_w1⟩
  replace hp := hp.chg c_w1 id
  replace cp := cp.step c_w1 (fun _ _ h => h.elim)
  clear c_w1 
  obtain ⟨p0, p1, p2, p3, p4, p5⟩ := hp.cell6
  have fg : Fresh w w1.heap.size := cp.size
  have hx := Blk.new w1 25 [.int .i64 C, .int .i64 A, .int .i64 F, .bool m, .bool f, .bool d]
  replace hp := hp.alloc (.cells [.int .i64 C, .int .i64 A, .int .i64 F, .bool m, .bool f, .bool d].toArray 25)
  replace cp := cp.alloc (.cells [.int .i64 C, .int .i64 A, .int .i64 F, .bool m, .bool f, .bool d].toArray 25)
  go_wp2_with fail
  clear p0 p1 p2 p3 p4 p5
  generalize w1.alloc (.cells #[.int .i64 C, .int .i64 A, .int .i64 F, .bool m, .bool f, .bool d] 25) = wx at *
  generalize w1.heap.size = x at *
  go_loopw [17] (fun i wr => ∃ k : Nat, k ≤ n ∧ i = .int .u8 k ∧ Inv C A F m f d w p x k wr) (fun i _ => n - (intOf i).toNat)
  case atStart => exact ⟨0, Nat.zero_le _, rfl, hp, by rw [ag_0 b4]; exact hx, cp⟩
  case round =>
    clear hp hx cp
    obtain ⟨k, hk, rfl, hp, hx, cp⟩ := hrel
    obtain ⟨g1, g2⟩ := ag_bd b3 k
    have KS := hide (ag_succ b3 k)
    by_cases hlt : k < n
    · have hlt' : (k : Int) < n := by omega
      obtain ⟨x0, x1, x2, x3, x4, x5⟩ := hx.cell6
      go_wp2_with fail
      refine (older_in C (agN A k) F m f d _ g1 g2).mono ?_
      rintro e w2 ⟨rfl, c2⟩
      rw [KS.out]
      replace hp := hp.chg c2 id
      replace hx := hx.chg c2 id
      replace cp := cp.trans c2
      clear x0 x1 x2 x3 x4 x5
      clear c2
      obtain ⟨x0, x1, x2, x3, x4, x5⟩ := hx.cell6
      obtain ⟨f0, f1, f2, f3, f4, f5⟩ := hx.frozen6
      have hx2 : Blk ((((((w2.setCell ⟨x, 0, none⟩ (.int .i64 C)).setCell ⟨x, 1, none⟩ (.int .i64 (agN A (k + 1)))).setCell ⟨x, 2, none⟩ (.int .i64 F)).setCell ⟨x, 3, none⟩ (.bool m)).setCell ⟨x, 4, none⟩ (.bool f)).setCell ⟨x, 5, none⟩ (.bool d)) x 25 [.int .i64 C, .int .i64 (agN A (k + 1)), .int .i64 F, .bool m, .bool f, .bool d] := hx.put6 (.int .i64 C) (.int .i64 (agN A (k + 1))) (.int .i64 F) (.bool m) (.bool f) (.bool d)
      have cp2 : Grow w ((((((w2.setCell ⟨x, 0, none⟩ (.int .i64 C)).setCell ⟨x, 1, none⟩ (.int .i64 (agN A (k + 1)))).setCell ⟨x, 2, none⟩ (.int .i64 F)).setCell ⟨x, 3, none⟩ (.bool m)).setCell ⟨x, 4, none⟩ (.bool f)).setCell ⟨x, 5, none⟩ (.bool d)) := fg.put6 cp (.int .i64 C) (.int .i64 (agN A (k + 1))) (.int .i64 F) (.bool m) (.bool f) (.bool d)
      have hne : ¬ p = x := hp.ne_ hx (by decide)
      have hp2 : Blk ((((((w2.setCell ⟨x, 0, none⟩ (.int .i64 C)).setCell ⟨x, 1, none⟩ (.int .i64 (agN A (k + 1)))).setCell ⟨x, 2, none⟩ (.int .i64 F)).setCell ⟨x, 3, none⟩ (.bool m)).setCell ⟨x, 4, none⟩ (.bool f)).setCell ⟨x, 5, none⟩ (.bool d)) p 23 [.int .i64 C, .int .i64 A, .int .i64 F, .bool m, .bool f, .bool d] := hp.far6 hne (.int .i64 C) (.int .i64 (agN A (k + 1))) (.int .i64 F) (.bool m) (.bool f) (.bool d)
      have HX2 := hide hx2
      have HP2 := hide hp2
      have CP2 := hide cp2
      clear hx2 hp2 cp2 hne hx hp cp
      go_wp2
      go_roundw
      case rel => exact ⟨k + 1, by omega, by go_num, HP2.out, HX2.out, CP2.out⟩
      case measure => simp [intOf]; omega
    · obtain rfl : k = n := by omega
      clear hlt
      have kmin := KM.out
      obtain ⟨p0, p1, p2, p3, p4, p5⟩ := hp.cell6
      obtain ⟨q0, q1, q2, q3, q4, q5⟩ := (hp.alloc (.cells [.int .i64 C, .int .i64 A, .int .i64 F, .bool m, .bool f, .bool d].toArray 25)).cell6
      obtain ⟨y0, y1, y2, y3, y4, y5⟩ := (hx.alloc (.cells [.int .i64 C, .int .i64 (agN A k), .int .i64 F, .bool m, .bool f, .bool d].toArray 25)).cell6
      replace cp := cp.alloc (.cells [.int .i64 C, .int .i64 (agN A k), .int .i64 F, .bool m, .bool f, .bool d].toArray 25)
      clear hx hp
      go_wp2_with fail
      clear q0 q1 q2 q3 q4 q5 p0 p1 p2 p3 p4 p5 y0 y1 y2 y3 y4 y5 kmin
      refine (right_is _ HRN.out).mono ?_
      rintro e w3 ⟨rfl, c_w3⟩
      replace cp := cp.step c_w3 (fun _ _ h => h.elim)
      clear c_w3 
      go_wp2
      go_ret
      exact ⟨rfl, cp.below (fun _ _ h => h) (Nat.le_refl _)⟩
theorem walk (cs : List Value) (n : Int) (w : World) (w0 : fits [some .i64, some .i64, some .i64, none, none, none] cs) (w1 : (Lit.int .u8 n).wf = true) :
    Calls Try.prog 6 #[.agg cs.toArray, .int .u8 n] w fun e w' => e = .returned (.bool true) ∧ Below w.heap.size w w' := by
  obtain ⟨C, A, F, m, f, d, rfl, _, _, _⟩ := fits_head w0
  obtain ⟨k1, k2⟩ := bounds_u8 w1
  obtain ⟨k, rfl⟩ := Int.eq_ofNat_of_zero_le k1
  cases hr : riB C A F f d
  · exact walk_no C A F k m f d w hr
  · exact walk_yes C A F k m f d w hr (by omega)

theorem own : ownKnob Try.prog.godebug = none := by kernel_rfl
theorem laidOut : laidOutB Try.prog = true := by kernel_rfl

set_option maxRecDepth 100000 in
theorem lifted (os : Os) (started : os.Started) (H : Type) (enc : TypeId × Value → H) :
    ReturnsInHanded {} Try.checked os 6 .any (Rows.headOlderSpec.pre6 enc Try.prog Try.f6 Rows.headOlderRow.domain false) (Rows.headOlderSpec.post enc Try.prog Try.f6 false true false false) := by
  refine returnsInHanded_of_change (C := Try.checked) own started (by kernel_rfl) Try.func6
    (ChangeSpec.witness6 (enc := enc) (C := Try.checked) false ⟨#[], #[.agg #[.int .i64 0, .int .i64 0, .int .i64 0, .bool false, .bool false, .bool false], .int .u8 0], []⟩ 8 (by kernel_rfl) (by kernel_rfl) (by kernel_rfl) (by kernel_rfl)) ?_
  intro W base args ds gs before hval0 hW hcnd _
  have hval : ∀ (j : Nat) t v, Try.f6.params[j]? = some t → args[j]? = some v → Value.okWide Try.prog W .any base t v := hval0
  have hW' := hW
  obtain ⟨p, q, hA0, hV, rfl, hfz, hnd⟩ := hW
  have hA : DataW.TrodAll enc Try.prog W 0 (fun _ => true) true Try.f6.params.toList args.toList ds p := hA0
  rw [Try.params6] at hA hval
  obtain ⟨v0, vs0, d0, ds0, p0, q0, hargs, rfl, rfl, h0, r0⟩ := trodAll_cons hA
  obtain ⟨v1, vs1, d1, ds1, p1, q1, rfl, rfl, rfl, h1, r1⟩ := trodAll_cons r0
  obtain ⟨rfl, rfl, rfl⟩ := trodAll_nil r1
  obtain rfl : args = #[v0, v1] := by cases args; simp_all
  obtain ⟨rfl, rfl⟩ := trodVars_none hV
  have k0 := h0
  have lt0 : ∀ x ∈ p0, x.block < W.heap.size := by obtain ⟨m, hm⟩ := k0; exact DataW.trod_lt m _ _ _ hm
  obtain ⟨cs0, rfl, w0⟩ := open_rec [some .i64, some .i64, some .i64, none, none, none] Try.underlying23 (by kernel_rfl) (by kernel_rfl) (by kernel_rfl) (hval 0 23 v0 rfl rfl) h0
  obtain ⟨a1, rfl, rfl, rfl, w1⟩ := open_int Try.underlying5 (hval 1 5 v1 rfl rfl) h1
  clear hA0 hval0
  refine (walk cs0 a1 W w0 w1).mono fun e W' ⟨he, bel⟩ => ?_
  subst he
  exact ⟨_, rfl, _, _, _, [], _, [], hW', trodAll_mk1 (shut_bool Try.underlying4 _), (trodAll_cons_mk (Below.trod laidOut (by kernel_rfl) (of_decide_eq_true (by kernel_rfl)) k0 bel lt0) (trodAll_cons_mk (shut_int Try.underlying5 w1) trodAll_mk0)), rfl, bel.frame _, fun h => by cases h⟩

theorem over : Rows.headOlderRow.holds Try.pinned (OpenSpec.ofChange Rows.headOlderSpec) :=
  OpenClaim.holds_of_wide 6 Try.f6 rfl rfl rfl rfl rfl rfl rfl ⟨rfl, rfl, rfl, rfl, rfl⟩ rfl rfl rfl rfl rfl (by kernel_rfl) Try.func6 (by kernel_rfl)
    (of_decide_eq_true (by kernel_rfl)) (by unfold Func.isWrapper; first | (rw [if_pos (by decide +kernel)]; kernel_rfl) | (rw [if_neg (by decide +kernel)]; exact ⟨rfl, rfl⟩))
    (fun os started H enc _ => lifted os started H enc)

/-- The statement. -/
theorem proved : Rows.HeadOlderSaid := over
#print axioms proved
end Go.Proofs.Ytaaimofkfcmdkaa.headOlder

