/- What Of and Older answer, and the answers of package gleaningref04 besides; they change nothing but make new memory. Conditions: the numbers given fit their kinds. -/
import Derived.Test.YtgknndbahdjghaaL4Head
import Derived.StillTailTactics
namespace Go.Proofs.Ytgknndbahdjghaa.L4
open Go.ChangeShapes Go.WideShapes Go.ChangeAt Go.RowKit
set_option linter.unusedVariables false

theorem bit_ne (n k : Int) : (bits .and .i64 (n / k) 1 != 0) = bitB n k := by
  rw [i64_and1]
  have h : n / k % 2 = 0 ∨ n / k % 2 = 1 := by omega
  rcases h with h | h <;> simp [bitB, h]
set_option maxHeartbeats 400000 in
theorem has10 (n : Int) (g : Nat) (w : World) (hg : w.cell? ⟨g, 0, none⟩ = some (.int .i64 n)) :
    Calls Try.prog 57 #[.int .u64 10, .pointer (some ⟨g, 0, none⟩)] w fun e w' => e = .returned (.bool (bitB n 1024)) ∧ w = w' := by
  go_enter Try.func57, Try.ntmps57
  go_wp2
  go_ret
  exact ⟨ret_bool (bit_ne n 1024), rfl⟩
set_option maxHeartbeats 400000 in
theorem has11 (n : Int) (g : Nat) (w : World) (hg : w.cell? ⟨g, 0, none⟩ = some (.int .i64 n)) :
    Calls Try.prog 57 #[.int .u64 11, .pointer (some ⟨g, 0, none⟩)] w fun e w' => e = .returned (.bool (bitB n 2048)) ∧ w = w' := by
  go_enter Try.func57, Try.ntmps57
  go_wp2
  go_ret
  exact ⟨ret_bool (bit_ne n 2048), rfl⟩
set_option maxHeartbeats 400000 in
theorem has12 (n : Int) (g : Nat) (w : World) (hg : w.cell? ⟨g, 0, none⟩ = some (.int .i64 n)) :
    Calls Try.prog 57 #[.int .u64 12, .pointer (some ⟨g, 0, none⟩)] w fun e w' => e = .returned (.bool (bitB n 4096)) ∧ w = w' := by
  go_enter Try.func57, Try.ntmps57
  go_wp2
  go_ret
  exact ⟨ret_bool (bit_ne n 4096), rfl⟩

theorem right_of (n : Int) (w : World) :
    Calls Try.prog 46 #[hdV (n % 64) (n / 64 % 16) (n / 8192) (bitB n 1024) (bitB n 2048) (bitB n 4096)] w fun e w' => e = .returned (.bool (ofB n)) ∧ Grow w w' := right_any _ _ _ _ _ _ w
set_option maxHeartbeats 1000000 in
theorem of_any (n : Int) (w : World) :
    Calls Try.prog 52 #[.int .i64 n] w fun e w' => e = .returned (.tuple #[ofV n, .int .i64 (ofX n)]) ∧ Grow w w' := by
  have hmf : ∀ (fn : Fn) (first cap : Array Value) (w : World), (Instr.makeFunc fn first cap).run Try.prog w = .ok (.func fn first cap) w := fun _ _ _ _ => rfl
  have hw := Blk.new w 3 [.int .i64 n]
  have hr := Blk.new (w.alloc (.cells #[.int .i64 n] 3)) 45 [.int .i64 0, .int .i64 0, .int .i64 0, .bool false, .bool false, .bool false]
  have cw := Grow.box w (.cells [.int .i64 n].toArray 3)
  replace hw := hw.alloc (.cells [.int .i64 0, .int .i64 0, .int .i64 0, .bool false, .bool false, .bool false].toArray 45)
  replace cw := cw.alloc (.cells [.int .i64 0, .int .i64 0, .int .i64 0, .bool false, .bool false, .bool false].toArray 45)
  have hrs : (w.alloc (.cells #[.int .i64 n] 3)).heap.size = w.heap.size + 1 := by simp
  rw [hrs] at hr
  clear hrs
  go_enter Try.func52, Try.ntmps52
  go_wp2_with fail
  generalize (w.alloc (.cells #[.int .i64 n] 3)).alloc (.cells #[.int .i64 0, .int .i64 0, .int .i64 0, .bool false, .bool false, .bool false] 45) = w2 at *
  have hsz := hide hr.lt
  have nsg : ¬ w.heap.size = w.heap.size + 1 := by omega
  have fg : Fresh w (w.heap.size + 1) := by show w.heap.size ≤ w.heap.size + 1; omega
  generalize w.heap.size + 1 = g at *
  generalize w.heap.size = s at *
  have c0 : w2.drew.cell? ⟨s, 0, none⟩ = some (.int .i64 n) := hw.cell 0
  have e1 := i64_and63 n
  have e2 := i64_and15 (n / 64)
  have HS := hide hw
  have HR := hide hr
  clear hw hr hmf
  go_region_held3 (fun w' => w'.cell? ⟨s, 0, none⟩ = some (.int .i64 n)) (first | exact c0 | exact HS.out.cell_new _ 0 rfl) (first | (go_at_call 57; (first | (with_reducible refine (has10 n s _ ?_).mono ?_) | (with_reducible refine (has11 n s _ ?_).mono ?_) | (with_reducible refine (has12 n s _ ?_).mono ?_)); (assumption); rintro e w' ⟨rfl, rfl⟩))
  all_goals
    go_wp2_with fail
    have hx : Blk (w2.alloc (.cells #[.int .i64 (n % 64), .int .i64 (n / 64 % 16), .int .i64 (n / 8192), .bool (bitB n 1024), .bool (bitB n 2048), .bool (bitB n 4096)] 45)).drew w2.heap.size 45 [.int .i64 (n % 64), .int .i64 (n / 64 % 16), .int .i64 (n / 8192), .bool (bitB n 1024), .bool (bitB n 2048), .bool (bitB n 4096)] := Blk.new w2 45 [.int .i64 (n % 64), .int .i64 (n / 64 % 16), .int .i64 (n / 8192), .bool (bitB n 1024), .bool (bitB n 2048), .bool (bitB n 4096)]
    have hr : Blk (w2.alloc (.cells #[.int .i64 (n % 64), .int .i64 (n / 64 % 16), .int .i64 (n / 8192), .bool (bitB n 1024), .bool (bitB n 2048), .bool (bitB n 4096)] 45)).drew g 45 [.int .i64 0, .int .i64 0, .int .i64 0, .bool false, .bool false, .bool false] := HR.out.alloc _
    have cw3 : Grow w (w2.alloc (.cells #[.int .i64 (n % 64), .int .i64 (n / 64 % 16), .int .i64 (n / 8192), .bool (bitB n 1024), .bool (bitB n 2048), .bool (bitB n 4096)] 45)).drew := (cw.alloc _).drew
    have nxg : ¬ w2.heap.size = g := by have := hsz.out; omega
    clear HS HR cw hsz c0 e1 e2 nsg
    generalize (w2.alloc (.cells #[.int .i64 (n % 64), .int .i64 (n / 64 % 16), .int .i64 (n / 8192), .bool (bitB n 1024), .bool (bitB n 2048), .bool (bitB n 4096)] 45)).drew = w3 at *
    generalize w2.heap.size = x at *
    refine (right_of n w3).mono ?_
    rintro e w4 ⟨rfl, c4⟩
    replace hx := hx.chg c4 id
    replace hr := hr.chg c4 id
    replace cw3 := cw3.trans c4
    clear c4
    obtain ⟨x0, x1, x2, x3, x4, x5⟩ := hx.cell6
    obtain ⟨r0, r1, r2, r3, r4, r5⟩ := hr.cell6
    obtain ⟨f0, f1, f2, f3, f4, f5⟩ := hr.frozen6
    have HR := hide hr
    clear hr hx
    cases hO : ofB n
    · have HE := hide (of_no hO)
      go_wp2
      have hr2 : Blk ((((((w4.setCell ⟨g, 0, none⟩ (.int .i64 0)).setCell ⟨g, 1, none⟩ (.int .i64 0)).setCell ⟨g, 2, none⟩ (.int .i64 0)).setCell ⟨g, 3, none⟩ (.bool false)).setCell ⟨g, 4, none⟩ (.bool false)).setCell ⟨g, 5, none⟩ (.bool false)) g 45 [.int .i64 0, .int .i64 0, .int .i64 0, .bool false, .bool false, .bool false] := HR.out.put6 (.int .i64 0) (.int .i64 0) (.int .i64 0) (.bool false) (.bool false) (.bool false)
      have cw4 : Grow w ((((((w4.setCell ⟨g, 0, none⟩ (.int .i64 0)).setCell ⟨g, 1, none⟩ (.int .i64 0)).setCell ⟨g, 2, none⟩ (.int .i64 0)).setCell ⟨g, 3, none⟩ (.bool false)).setCell ⟨g, 4, none⟩ (.bool false)).setCell ⟨g, 5, none⟩ (.bool false)) := fg.put6 cw3 (.int .i64 0) (.int .i64 0) (.int .i64 0) (.bool false) (.bool false) (.bool false)
      clear HR r0 r1 r2 r3 r4 r5 x0 x1 x2 x3 x4 x5 f0 f1 f2 f3 f4 f5 hO cw3
      generalize ((((((w4.setCell ⟨g, 0, none⟩ (.int .i64 0)).setCell ⟨g, 1, none⟩ (.int .i64 0)).setCell ⟨g, 2, none⟩ (.int .i64 0)).setCell ⟨g, 3, none⟩ (.bool false)).setCell ⟨g, 4, none⟩ (.bool false)).setCell ⟨g, 5, none⟩ (.bool false)) = w5 at *
      obtain ⟨r0, r1, r2, r3, r4, r5⟩ := hr2.cell6
      clear hr2
      refine bodyPost_ret (v := .tuple #[hdV 0 0 0 false false false, .int .i64 12]) (by simp [results, Try.results52, go_sem, r0, r1, r2, r3, r4, r5]) rfl ?_
      exact ⟨ret_any (by rw [HE.out.1, HE.out.2]), cw4⟩
    · have HE := hide (of_yes hO)
      go_wp2
      have hr2 : Blk ((((((w4.setCell ⟨g, 0, none⟩ (.int .i64 (n % 64))).setCell ⟨g, 1, none⟩ (.int .i64 (n / 64 % 16))).setCell ⟨g, 2, none⟩ (.int .i64 (n / 8192))).setCell ⟨g, 3, none⟩ (.bool (bitB n 1024))).setCell ⟨g, 4, none⟩ (.bool (bitB n 2048))).setCell ⟨g, 5, none⟩ (.bool (bitB n 4096))) g 45 [.int .i64 (n % 64), .int .i64 (n / 64 % 16), .int .i64 (n / 8192), .bool (bitB n 1024), .bool (bitB n 2048), .bool (bitB n 4096)] := HR.out.put6 (.int .i64 (n % 64)) (.int .i64 (n / 64 % 16)) (.int .i64 (n / 8192)) (.bool (bitB n 1024)) (.bool (bitB n 2048)) (.bool (bitB n 4096))
      have cw4 : Grow w ((((((w4.setCell ⟨g, 0, none⟩ (.int .i64 (n % 64))).setCell ⟨g, 1, none⟩ (.int .i64 (n / 64 % 16))).setCell ⟨g, 2, none⟩ (.int .i64 (n / 8192))).setCell ⟨g, 3, none⟩ (.bool (bitB n 1024))).setCell ⟨g, 4, none⟩ (.bool (bitB n 2048))).setCell ⟨g, 5, none⟩ (.bool (bitB n 4096))) := fg.put6 cw3 (.int .i64 (n % 64)) (.int .i64 (n / 64 % 16)) (.int .i64 (n / 8192)) (.bool (bitB n 1024)) (.bool (bitB n 2048)) (.bool (bitB n 4096))
      clear HR r0 r1 r2 r3 r4 r5 x0 x1 x2 x3 x4 x5 f0 f1 f2 f3 f4 f5 hO cw3
      generalize ((((((w4.setCell ⟨g, 0, none⟩ (.int .i64 (n % 64))).setCell ⟨g, 1, none⟩ (.int .i64 (n / 64 % 16))).setCell ⟨g, 2, none⟩ (.int .i64 (n / 8192))).setCell ⟨g, 3, none⟩ (.bool (bitB n 1024))).setCell ⟨g, 4, none⟩ (.bool (bitB n 2048))).setCell ⟨g, 5, none⟩ (.bool (bitB n 4096))) = w5 at *
      obtain ⟨r0, r1, r2, r3, r4, r5⟩ := hr2.cell6
      clear hr2
      refine bodyPost_ret (v := .tuple #[hdV (n % 64) (n / 64 % 16) (n / 8192) (bitB n 1024) (bitB n 2048) (bitB n 4096), .int .i64 0]) (by simp [results, Try.results52, go_sem, r0, r1, r2, r3, r4, r5]) rfl ?_
      exact ⟨ret_any (by rw [HE.out.1, HE.out.2]), cw4⟩
theorem ofB_no {n : Int} (h : n < 0 ∨ 33554432 ≤ n) : ofB n = false := by
  cases e : ofB n
  · rfl
  · have := ri_true e
    omega
theorem bit_is (n k : Int) : (n / k % 2 == 1) = bitB n k := by simp [bitB]; exact Bool.beq_eq_decide_eq ..
end Go.Proofs.Ytgknndbahdjghaa.L4
