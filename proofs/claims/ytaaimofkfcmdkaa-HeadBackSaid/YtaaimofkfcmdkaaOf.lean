/- What Of and Older answer, and the answers of package gleaningref04 besides; they change nothing but make new memory. Conditions: the numbers given fit their kinds. -/
import Derived.Test.YtaaimofkfcmdkaaHead
import Derived.StillTailTactics
namespace Go.Proofs.Ytaaimofkfcmdkaa
open Go.ChangeShapes Go.WideShapes Go.ChangeAt Go.RowKit
set_option linter.unusedVariables false

set_option maxHeartbeats 400000 in
theorem rword_in (C A F : Int) (m f d : Bool) (w : World) (b1 : 0 ≤ C) (b2 : C ≤ 63) (b3 : 0 ≤ A) (b4 : A ≤ 7) (b5 : 0 ≤ F) (b6 : F ≤ 4095) :
    Calls Try.prog 13 #[hdV C A F m f d] w fun e w' => e = .returned (.int .i64 (wd C A F m f d)) ∧ Grow w w' := by
  cases m <;> cases f <;> cases d
  all_goals
    go_enter Try.func13, Try.ntmps13
    go_wp2
    go_ret
    exact ⟨ret_int (by simp [wd, b2i]), Grow.box _ _⟩

theorem bit_ne (n k : Int) : (bits .and .i64 (n / k) 1 != 0) = bitB n k := by
  rw [i64_and1]
  have h : n / k % 2 = 0 ∨ n / k % 2 = 1 := by omega
  rcases h with h | h <;> simp [bitB, h]
set_option maxHeartbeats 400000 in
theorem has10 (n : Int) (g : Nat) (w : World) (hg : w.cell? ⟨g, 0, none⟩ = some (.int .i64 n)) :
    Calls Try.prog 19 #[.int .u64 10, .pointer (some ⟨g, 0, none⟩)] w fun e w' => e = .returned (.bool (bitB n 1024)) ∧ w = w' := by
  go_enter Try.func19, Try.ntmps19
  go_wp2
  go_ret
  exact ⟨ret_bool (bit_ne n 1024), rfl⟩
set_option maxHeartbeats 400000 in
theorem has11 (n : Int) (g : Nat) (w : World) (hg : w.cell? ⟨g, 0, none⟩ = some (.int .i64 n)) :
    Calls Try.prog 19 #[.int .u64 11, .pointer (some ⟨g, 0, none⟩)] w fun e w' => e = .returned (.bool (bitB n 2048)) ∧ w = w' := by
  go_enter Try.func19, Try.ntmps19
  go_wp2
  go_ret
  exact ⟨ret_bool (bit_ne n 2048), rfl⟩
set_option maxHeartbeats 400000 in
theorem has12 (n : Int) (g : Nat) (w : World) (hg : w.cell? ⟨g, 0, none⟩ = some (.int .i64 n)) :
    Calls Try.prog 19 #[.int .u64 12, .pointer (some ⟨g, 0, none⟩)] w fun e w' => e = .returned (.bool (bitB n 4096)) ∧ w = w' := by
  go_enter Try.func19, Try.ntmps19
  go_wp2
  go_ret
  exact ⟨ret_bool (bit_ne n 4096), rfl⟩

theorem right_of (n : Int) (w : World) :
    Calls Try.prog 12 #[hdV (n % 64) (n / 64 % 16) (n / 8192) (bitB n 1024) (bitB n 2048) (bitB n 4096)] w fun e w' => e = .returned (.bool (ofB n)) ∧ Grow w w' := right_any _ _ _ _ _ _ w
theorem rright_of (n : Int) (w : World) :
    Calls Try.prog 11 #[hdV (n % 64) (n / 64 % 16) (n / 8192) (bitB n 1024) (bitB n 2048) (bitB n 4096)] w fun e w' => e = .returned (.bool (ofB n)) ∧ Grow w w' := rright_any _ _ _ _ _ _ w
set_option maxHeartbeats 1000000 in
theorem of_any (n : Int) (w : World) :
    Calls Try.prog 14 #[.int .i64 n] w fun e w' => e = .returned (.tuple #[ofV n, .int .i64 (ofX n)]) ∧ Grow w w' := by
  have hmf : ∀ (fn : Fn) (first cap : Array Value) (w : World), (Instr.makeFunc fn first cap).run Try.prog w = .ok (.func fn first cap) w := fun _ _ _ _ => rfl
  have hw := Blk.new w 3 [.int .i64 n]
  have hr := Blk.new (w.alloc (.cells #[.int .i64 n] 3)) 25 [.int .i64 0, .int .i64 0, .int .i64 0, .bool false, .bool false, .bool false]
  have cw := Grow.box w (.cells [.int .i64 n].toArray 3)
  replace hw := hw.alloc (.cells [.int .i64 0, .int .i64 0, .int .i64 0, .bool false, .bool false, .bool false].toArray 25)
  replace cw := cw.alloc (.cells [.int .i64 0, .int .i64 0, .int .i64 0, .bool false, .bool false, .bool false].toArray 25)
  have hrs : (w.alloc (.cells #[.int .i64 n] 3)).heap.size = w.heap.size + 1 := by simp
  rw [hrs] at hr
  clear hrs
  go_enter Try.func14, Try.ntmps14
  go_wp2_with fail
  generalize (w.alloc (.cells #[.int .i64 n] 3)).alloc (.cells #[.int .i64 0, .int .i64 0, .int .i64 0, .bool false, .bool false, .bool false] 25) = w2 at *
  have hsz := hide hr.lt
  have nsg : ¬ w.heap.size = w.heap.size + 1 := by omega
  have fg : Fresh w (w.heap.size + 1) := by show w.heap.size ≤ w.heap.size + 1; omega
  generalize w.heap.size + 1 = g at *
  generalize w.heap.size = s at *
  have c0 : w2.drew.cell? ⟨s, 0, none⟩ = some (.int .i64 n) := hw.cell 0
  have e1 := i64_and63 n
  have e2 := i64_and15 (n / 64)
  have HS := hide hw
  have HR := hide hr
  clear hw hr hmf
  go_region_held3 (fun w' => w'.cell? ⟨s, 0, none⟩ = some (.int .i64 n)) (first | exact c0 | exact HS.out.cell_new _ 0 rfl) (first | (go_at_call 19; (first | (with_reducible refine (has10 n s _ ?_).mono ?_) | (with_reducible refine (has11 n s _ ?_).mono ?_) | (with_reducible refine (has12 n s _ ?_).mono ?_)); (assumption); rintro e w' ⟨rfl, rfl⟩))
  all_goals
    go_wp2_with fail
    have hx : Blk (w2.alloc (.cells #[.int .i64 (n % 64), .int .i64 (n / 64 % 16), .int .i64 (n / 8192), .bool (bitB n 1024), .bool (bitB n 2048), .bool (bitB n 4096)] 25)).drew w2.heap.size 25 [.int .i64 (n % 64), .int .i64 (n / 64 % 16), .int .i64 (n / 8192), .bool (bitB n 1024), .bool (bitB n 2048), .bool (bitB n 4096)] := Blk.new w2 25 [.int .i64 (n % 64), .int .i64 (n / 64 % 16), .int .i64 (n / 8192), .bool (bitB n 1024), .bool (bitB n 2048), .bool (bitB n 4096)]
    have hr : Blk (w2.alloc (.cells #[.int .i64 (n % 64), .int .i64 (n / 64 % 16), .int .i64 (n / 8192), .bool (bitB n 1024), .bool (bitB n 2048), .bool (bitB n 4096)] 25)).drew g 25 [.int .i64 0, .int .i64 0, .int .i64 0, .bool false, .bool false, .bool false] := HR.out.alloc _
    have cw3 : Grow w (w2.alloc (.cells #[.int .i64 (n % 64), .int .i64 (n / 64 % 16), .int .i64 (n / 8192), .bool (bitB n 1024), .bool (bitB n 2048), .bool (bitB n 4096)] 25)).drew := (cw.alloc _).drew
    have nxg : ¬ w2.heap.size = g := by have := hsz.out; omega
    clear HS HR cw hsz c0 e1 e2 nsg
    generalize (w2.alloc (.cells #[.int .i64 (n % 64), .int .i64 (n / 64 % 16), .int .i64 (n / 8192), .bool (bitB n 1024), .bool (bitB n 2048), .bool (bitB n 4096)] 25)).drew = w3 at *
    generalize w2.heap.size = x at *
    refine (right_of n w3).mono ?_
    rintro e w4 ⟨rfl, c4⟩
    replace hx := hx.chg c4 id
    replace hr := hr.chg c4 id
    replace cw3 := cw3.trans c4
    clear c4
    obtain ⟨x0, x1, x2, x3, x4, x5⟩ := hx.cell6
    obtain ⟨r0, r1, r2, r3, r4, r5⟩ := hr.cell6
    obtain ⟨f0, f1, f2, f3, f4, f5⟩ := hr.frozen6
    have HR := hide hr
    clear hr hx
    cases hO : ofB n
    · have HE := hide (of_no hO)
      go_wp2
      have hr2 : Blk ((((((w4.setCell ⟨g, 0, none⟩ (.int .i64 0)).setCell ⟨g, 1, none⟩ (.int .i64 0)).setCell ⟨g, 2, none⟩ (.int .i64 0)).setCell ⟨g, 3, none⟩ (.bool false)).setCell ⟨g, 4, none⟩ (.bool false)).setCell ⟨g, 5, none⟩ (.bool false)) g 25 [.int .i64 0, .int .i64 0, .int .i64 0, .bool false, .bool false, .bool false] := HR.out.put6 (.int .i64 0) (.int .i64 0) (.int .i64 0) (.bool false) (.bool false) (.bool false)
      have cw4 : Grow w ((((((w4.setCell ⟨g, 0, none⟩ (.int .i64 0)).setCell ⟨g, 1, none⟩ (.int .i64 0)).setCell ⟨g, 2, none⟩ (.int .i64 0)).setCell ⟨g, 3, none⟩ (.bool false)).setCell ⟨g, 4, none⟩ (.bool false)).setCell ⟨g, 5, none⟩ (.bool false)) := fg.put6 cw3 (.int .i64 0) (.int .i64 0) (.int .i64 0) (.bool false) (.bool false) (.bool false)
      clear HR r0 r1 r2 r3 r4 r5 x0 x1 x2 x3 x4 x5 f0 f1 f2 f3 f4 f5 hO cw3
      generalize ((((((w4.setCell ⟨g, 0, none⟩ (.int .i64 0)).setCell ⟨g, 1, none⟩ (.int .i64 0)).setCell ⟨g, 2, none⟩ (.int .i64 0)).setCell ⟨g, 3, none⟩ (.bool false)).setCell ⟨g, 4, none⟩ (.bool false)).setCell ⟨g, 5, none⟩ (.bool false)) = w5 at *
      obtain ⟨r0, r1, r2, r3, r4, r5⟩ := hr2.cell6
      clear hr2
      refine bodyPost_ret (v := .tuple #[hdV 0 0 0 false false false, .int .i64 12]) (by simp [results, Try.results14, go_sem, r0, r1, r2, r3, r4, r5]) rfl ?_
      exact ⟨ret_any (by rw [HE.out.1, HE.out.2]), cw4⟩
    · have HE := hide (of_yes hO)
      go_wp2
      have hr2 : Blk ((((((w4.setCell ⟨g, 0, none⟩ (.int .i64 (n % 64))).setCell ⟨g, 1, none⟩ (.int .i64 (n / 64 % 16))).setCell ⟨g, 2, none⟩ (.int .i64 (n / 8192))).setCell ⟨g, 3, none⟩ (.bool (bitB n 1024))).setCell ⟨g, 4, none⟩ (.bool (bitB n 2048))).setCell ⟨g, 5, none⟩ (.bool (bitB n 4096))) g 25 [.int .i64 (n % 64), .int .i64 (n / 64 % 16), .int .i64 (n / 8192), .bool (bitB n 1024), .bool (bitB n 2048), .bool (bitB n 4096)] := HR.out.put6 (.int .i64 (n % 64)) (.int .i64 (n / 64 % 16)) (.int .i64 (n / 8192)) (.bool (bitB n 1024)) (.bool (bitB n 2048)) (.bool (bitB n 4096))
      have cw4 : Grow w ((((((w4.setCell ⟨g, 0, none⟩ (.int .i64 (n % 64))).setCell ⟨g, 1, none⟩ (.int .i64 (n / 64 % 16))).setCell ⟨g, 2, none⟩ (.int .i64 (n / 8192))).setCell ⟨g, 3, none⟩ (.bool (bitB n 1024))).setCell ⟨g, 4, none⟩ (.bool (bitB n 2048))).setCell ⟨g, 5, none⟩ (.bool (bitB n 4096))) := fg.put6 cw3 (.int .i64 (n % 64)) (.int .i64 (n / 64 % 16)) (.int .i64 (n / 8192)) (.bool (bitB n 1024)) (.bool (bitB n 2048)) (.bool (bitB n 4096))
      clear HR r0 r1 r2 r3 r4 r5 x0 x1 x2 x3 x4 x5 f0 f1 f2 f3 f4 f5 hO cw3
      generalize ((((((w4.setCell ⟨g, 0, none⟩ (.int .i64 (n % 64))).setCell ⟨g, 1, none⟩ (.int .i64 (n / 64 % 16))).setCell ⟨g, 2, none⟩ (.int .i64 (n / 8192))).setCell ⟨g, 3, none⟩ (.bool (bitB n 1024))).setCell ⟨g, 4, none⟩ (.bool (bitB n 2048))).setCell ⟨g, 5, none⟩ (.bool (bitB n 4096))) = w5 at *
      obtain ⟨r0, r1, r2, r3, r4, r5⟩ := hr2.cell6
      clear hr2
      refine bodyPost_ret (v := .tuple #[hdV (n % 64) (n / 64 % 16) (n / 8192) (bitB n 1024) (bitB n 2048) (bitB n 4096), .int .i64 0]) (by simp [results, Try.results14, go_sem, r0, r1, r2, r3, r4, r5]) rfl ?_
      exact ⟨ret_any (by rw [HE.out.1, HE.out.2]), cw4⟩
theorem ofB_no {n : Int} (h : n < 0 ∨ 33554432 ≤ n) : ofB n = false := by
  cases e : ofB n
  · rfl
  · have := ri_true e
    omega
theorem bit_is (n k : Int) : (n / k % 2 == 1) = bitB n k := by simp [bitB]; exact Bool.beq_eq_decide_eq ..
set_option maxHeartbeats 1000000 in
theorem rof_any (n : Int) (w : World) :
    Calls Try.prog 15 #[.int .i64 n] w fun e w' => e = .returned (.tuple #[ofV n, .int .i64 (ofX n)]) ∧ Grow w w' := by
  by_cases h0 : n < 0
  · have HE := hide (of_no (ofB_no (Or.inl h0)))
    go_enter Try.func15, Try.ntmps15
    go_wp2
    go_returns
    exact ⟨ret_any (by rw [HE.out.1, HE.out.2]), Grow.box _ _⟩
  by_cases h1 : 33554432 ≤ n
  · have HE := hide (of_no (ofB_no (Or.inr h1)))
    go_enter Try.func15, Try.ntmps15
    go_wp2
    go_returns
    exact ⟨ret_any (by rw [HE.out.1, HE.out.2]), Grow.box _ _⟩
  · have q1 := bit_is n 1024
    have q2 := bit_is n 2048
    have q3 := bit_is n 4096
    have hr := Blk.new w 23 [.int .i64 0, .int .i64 0, .int .i64 0, .bool false, .bool false, .bool false]
    have cw := Grow.box w (.cells [.int .i64 0, .int .i64 0, .int .i64 0, .bool false, .bool false, .bool false].toArray 23)
    have hx := Blk.new (w.alloc (.cells #[.int .i64 0, .int .i64 0, .int .i64 0, .bool false, .bool false, .bool false] 23)) 23 [.int .i64 (n % 64), .int .i64 (n / 64 % 16), .int .i64 (n / 8192), .bool (bitB n 1024), .bool (bitB n 2048), .bool (bitB n 4096)]
    replace hr := hr.alloc (.cells [.int .i64 (n % 64), .int .i64 (n / 64 % 16), .int .i64 (n / 8192), .bool (bitB n 1024), .bool (bitB n 2048), .bool (bitB n 4096)].toArray 23)
    replace cw := cw.alloc (.cells [.int .i64 (n % 64), .int .i64 (n / 64 % 16), .int .i64 (n / 8192), .bool (bitB n 1024), .bool (bitB n 2048), .bool (bitB n 4096)].toArray 23)
    have hsz : (w.alloc (.cells #[.int .i64 0, .int .i64 0, .int .i64 0, .bool false, .bool false, .bool false] 23)).heap.size = w.heap.size + 1 := by simp
    rw [hsz] at hx
    clear hsz
    go_enter Try.func15, Try.ntmps15
    go_wp2_with fail
    clear q1 q2 q3
    have nsx : ¬ w.heap.size + 1 = w.heap.size := by omega
    have fg : Fresh w w.heap.size := Nat.le_refl _
    generalize (w.alloc (.cells #[.int .i64 0, .int .i64 0, .int .i64 0, .bool false, .bool false, .bool false] 23)).alloc (.cells #[.int .i64 (n % 64), .int .i64 (n / 64 % 16), .int .i64 (n / 8192), .bool (bitB n 1024), .bool (bitB n 2048), .bool (bitB n 4096)] 23) = w3 at *
    generalize w.heap.size + 1 = x at *
    generalize w.heap.size = g at *
    refine (rright_of n w3).mono ?_
    rintro e w4 ⟨rfl, c4⟩
    replace hx := hx.chg c4 id
    replace hr := hr.chg c4 id
    replace cw := cw.trans c4
    clear c4
    obtain ⟨x0, x1, x2, x3, x4, x5⟩ := hx.cell6
    obtain ⟨r0, r1, r2, r3, r4, r5⟩ := hr.cell6
    obtain ⟨f0, f1, f2, f3, f4, f5⟩ := hr.frozen6
    have HR := hide hr
    clear hr hx
    cases hO : ofB n
    · have HE := hide (of_no hO)
      go_wp2
      have hr2 : Blk ((((((w4.setCell ⟨g, 0, none⟩ (.int .i64 0)).setCell ⟨g, 1, none⟩ (.int .i64 0)).setCell ⟨g, 2, none⟩ (.int .i64 0)).setCell ⟨g, 3, none⟩ (.bool false)).setCell ⟨g, 4, none⟩ (.bool false)).setCell ⟨g, 5, none⟩ (.bool false)) g 23 [.int .i64 0, .int .i64 0, .int .i64 0, .bool false, .bool false, .bool false] := HR.out.put6 (.int .i64 0) (.int .i64 0) (.int .i64 0) (.bool false) (.bool false) (.bool false)
      have cw4 : Grow w ((((((w4.setCell ⟨g, 0, none⟩ (.int .i64 0)).setCell ⟨g, 1, none⟩ (.int .i64 0)).setCell ⟨g, 2, none⟩ (.int .i64 0)).setCell ⟨g, 3, none⟩ (.bool false)).setCell ⟨g, 4, none⟩ (.bool false)).setCell ⟨g, 5, none⟩ (.bool false)) := fg.put6 cw (.int .i64 0) (.int .i64 0) (.int .i64 0) (.bool false) (.bool false) (.bool false)
      clear HR r0 r1 r2 r3 r4 r5 x0 x1 x2 x3 x4 x5 f0 f1 f2 f3 f4 f5 hO cw
      generalize ((((((w4.setCell ⟨g, 0, none⟩ (.int .i64 0)).setCell ⟨g, 1, none⟩ (.int .i64 0)).setCell ⟨g, 2, none⟩ (.int .i64 0)).setCell ⟨g, 3, none⟩ (.bool false)).setCell ⟨g, 4, none⟩ (.bool false)).setCell ⟨g, 5, none⟩ (.bool false)) = w5 at *
      obtain ⟨r0, r1, r2, r3, r4, r5⟩ := hr2.cell6
      clear hr2
      refine bodyPost_ret (v := .tuple #[hdV 0 0 0 false false false, .int .i64 12]) (by simp [results, Try.results15, go_sem, r0, r1, r2, r3, r4, r5]) rfl ?_
      exact ⟨ret_any (by rw [HE.out.1, HE.out.2]), cw4⟩
    · have HE := hide (of_yes hO)
      go_wp2
      have hr2 : Blk ((((((w4.setCell ⟨g, 0, none⟩ (.int .i64 (n % 64))).setCell ⟨g, 1, none⟩ (.int .i64 (n / 64 % 16))).setCell ⟨g, 2, none⟩ (.int .i64 (n / 8192))).setCell ⟨g, 3, none⟩ (.bool (bitB n 1024))).setCell ⟨g, 4, none⟩ (.bool (bitB n 2048))).setCell ⟨g, 5, none⟩ (.bool (bitB n 4096))) g 23 [.int .i64 (n % 64), .int .i64 (n / 64 % 16), .int .i64 (n / 8192), .bool (bitB n 1024), .bool (bitB n 2048), .bool (bitB n 4096)] := HR.out.put6 (.int .i64 (n % 64)) (.int .i64 (n / 64 % 16)) (.int .i64 (n / 8192)) (.bool (bitB n 1024)) (.bool (bitB n 2048)) (.bool (bitB n 4096))
      have cw4 : Grow w ((((((w4.setCell ⟨g, 0, none⟩ (.int .i64 (n % 64))).setCell ⟨g, 1, none⟩ (.int .i64 (n / 64 % 16))).setCell ⟨g, 2, none⟩ (.int .i64 (n / 8192))).setCell ⟨g, 3, none⟩ (.bool (bitB n 1024))).setCell ⟨g, 4, none⟩ (.bool (bitB n 2048))).setCell ⟨g, 5, none⟩ (.bool (bitB n 4096))) := fg.put6 cw (.int .i64 (n % 64)) (.int .i64 (n / 64 % 16)) (.int .i64 (n / 8192)) (.bool (bitB n 1024)) (.bool (bitB n 2048)) (.bool (bitB n 4096))
      clear HR r0 r1 r2 r3 r4 r5 x0 x1 x2 x3 x4 x5 f0 f1 f2 f3 f4 f5 hO cw
      generalize ((((((w4.setCell ⟨g, 0, none⟩ (.int .i64 (n % 64))).setCell ⟨g, 1, none⟩ (.int .i64 (n / 64 % 16))).setCell ⟨g, 2, none⟩ (.int .i64 (n / 8192))).setCell ⟨g, 3, none⟩ (.bool (bitB n 1024))).setCell ⟨g, 4, none⟩ (.bool (bitB n 2048))).setCell ⟨g, 5, none⟩ (.bool (bitB n 4096))) = w5 at *
      obtain ⟨r0, r1, r2, r3, r4, r5⟩ := hr2.cell6
      clear hr2
      refine bodyPost_ret (v := .tuple #[hdV (n % 64) (n / 64 % 16) (n / 8192) (bitB n 1024) (bitB n 2048) (bitB n 4096), .int .i64 0]) (by simp [results, Try.results15, go_sem, r0, r1, r2, r3, r4, r5]) rfl ?_
      exact ⟨ret_any (by rw [HE.out.1, HE.out.2]), cw4⟩
end Go.Proofs.Ytaaimofkfcmdkaa
