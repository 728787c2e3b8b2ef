/- What Take of package space, and of package gleaningref02, answers, and that 'awake' of the laws answers true. Conditions: the numbers given fit their kinds. -/
import Derived.Test.YtbnnoelioiafdaaSpace
namespace Go.Proofs.Ytbnnoelioiafdaa
open Go.ChangeShapes Go.WideShapes Go.ChangeAt Go.RowKit
set_option linter.unusedVariables false

theorem room_ok (F T E : Int) (w : World) (h : riB F T E = true) :
    Calls Try.prog 19 #[spV F T E] w fun e w' => e = .returned (.int .i64 (E - T)) ∧ Grow w w' :=
  (room_any F T E w).mono fun _ _ ⟨he, hg⟩ => ⟨by rw [he, h]; rfl, hg⟩
theorem tk_no {F T E n : Int} (h : n < 1 ∨ riB F T E = false) : tkX F T E n = 1 := by simp [tkX, h]
theorem tk_full {F T E n : Int} (h1 : 1 ≤ n) (h2 : riB F T E = true) (h3 : E - T < n) : tkX F T E n = 3 := by
  unfold tkX
  rw [if_neg (by simp [h2]; omega), if_pos h3]
theorem tk_ok {F T E n : Int} (h1 : 1 ≤ n) (h2 : riB F T E = true) (h3 : n ≤ E - T) : tkX F T E n = 0 := by
  unfold tkX
  rw [if_neg (by simp [h2]; omega), if_neg (by omega)]
theorem tk_tuple {x y T a b c : Int} (h : x = y) (h1 : tkI y T = a) {F : Int} (h2 : tkI y F = b) {S E d : Int} (h3 : tkI y S = c) (h4 : tkI y E = d) :
    Value.tuple #[.int .i64 a, spV b c d, .int .i64 y] = .tuple #[.int .i64 (tkI x T), spV (tkI x F) (tkI x S) (tkI x E), .int .i64 x] := by
  subst h h1 h2 h3 h4
  rfl

set_option maxHeartbeats 1000000 in
theorem take_any (F T E n : Int) (w : World) (hn : n ≤ 9223372036854775807) :
    Calls Try.prog 11 #[spV F T E, .int .i64 n] w fun e w' => e = .returned (.tuple #[.int .i64 (tkI (tkX F T E n) T), spV (tkI (tkX F T E n) F) (tkI (tkX F T E n) (T + n)) (tkI (tkX F T E n) E), .int .i64 (tkX F T E n)]) ∧ Grow w w' := by
  by_cases h1 : n < 1
  · have HE := hide (tk_no (F := F) (T := T) (E := E) (.inl h1))
    go_enter Try.func11, Try.ntmps11
    go_wp2
    go_returns
    exact ⟨ret_any (tk_tuple HE.out (by simp [tkI]) (by simp [tkI]) (by simp [tkI]) (by simp [tkI])), Grow.two _ _ _⟩
  · by_cases h2 : riB F T E = true
    · obtain ⟨b1, b2, b3, b4⟩ := ri_true h2
      by_cases h3 : E - T < n
      · have HE := hide (tk_full (n := n) (by omega) h2 h3)
        have hs := (Blk.new w 25 [.int .i64 F, .int .i64 T, .int .i64 E]).alloc (.cells [.int .i64 0, .int .i64 0, .int .i64 0].toArray 25)
        have hr := Blk.new (w.alloc (.cells [.int .i64 F, .int .i64 T, .int .i64 E].toArray 25)) 25 [.int .i64 0, .int .i64 0, .int .i64 0]
        have cs := Grow.two w (.cells [.int .i64 F, .int .i64 T, .int .i64 E].toArray 25) (.cells [.int .i64 0, .int .i64 0, .int .i64 0].toArray 25)
        rw [World.size_alloc] at hr
        go_enter Try.func11, Try.ntmps11
        go_wp2_with fail
        generalize (w.alloc (.cells #[.int .i64 F, .int .i64 T, .int .i64 E] 25)).alloc (.cells #[.int .i64 0, .int .i64 0, .int .i64 0] 25) = w0 at *
        obtain ⟨s, hS⟩ : ∃ s, s = w.heap.size := ⟨_, rfl⟩
        rw [← hS] at hs hr
        try rw [← hS]
        have HS := hide hS
        clear hS
        refine (right_any F T E _).mono ?_
        rintro e w1 ⟨rfl, c1⟩
        replace hs := hs.chg c1 id
        replace hr := hr.chg c1 id
        replace cs := cs.trans c1
        clear c1
        have a0 : w1.cell? ⟨s, 0, none⟩ = some (.int .i64 F) := hs.cell 0
        have a1 : w1.cell? ⟨s, 1, none⟩ = some (.int .i64 T) := hs.cell 1
        have a2 : w1.cell? ⟨s, 2, none⟩ = some (.int .i64 E) := hs.cell 2
        have sf0 := hs.frozen 0
        have sf1 := hs.frozen 1
        have sf2 := hs.frozen 2
        have r0 : w1.cell? ⟨s + 1, 0, none⟩ = some (.int .i64 0) := hr.cell 0
        have r1 : w1.cell? ⟨s + 1, 1, none⟩ = some (.int .i64 0) := hr.cell 1
        have r2 : w1.cell? ⟨s + 1, 2, none⟩ = some (.int .i64 0) := hr.cell 2
        have rf0 := hr.frozen 0
        have rf1 := hr.frozen 1
        have rf2 := hr.frozen 2
        have HB := hide hs
        have HR := hide hr
        clear hs hr
        go_wp2_with fail
        refine (room_ok F T E _ h2).mono ?_
        rintro e w2 ⟨rfl, c2⟩
        have hs := HB.out.chg c2 id
        have hr := HR.out.chg c2 id
        replace cs := cs.trans c2
        clear a0 a1 a2 sf0 sf1 sf2 r0 r1 r2 rf0 rf1 rf2
        clear c2 HB HR
        have a0 : w2.cell? ⟨s, 0, none⟩ = some (.int .i64 F) := hs.cell 0
        have a1 : w2.cell? ⟨s, 1, none⟩ = some (.int .i64 T) := hs.cell 1
        have a2 : w2.cell? ⟨s, 2, none⟩ = some (.int .i64 E) := hs.cell 2
        have sf0 := hs.frozen 0
        have sf1 := hs.frozen 1
        have sf2 := hs.frozen 2
        have r0 : w2.cell? ⟨s + 1, 0, none⟩ = some (.int .i64 0) := hr.cell 0
        have r1 : w2.cell? ⟨s + 1, 1, none⟩ = some (.int .i64 0) := hr.cell 1
        have r2 : w2.cell? ⟨s + 1, 2, none⟩ = some (.int .i64 0) := hr.cell 2
        have rf0 := hr.frozen 0
        have rf1 := hr.frozen 1
        have rf2 := hr.frozen 2
        go_wp2
        (try simp only [Exit.inBlock, Exit.then])
        refine bodyPost_ret (v := .tuple #[.int .i64 0, spV 0 0 0, .int .i64 3]) (by simp [results, Try.results11, go_sem, r0, r1, r2]) rfl ?_
        exact ⟨ret_any (tk_tuple HE.out (by simp [tkI]) (by simp [tkI]) (by simp [tkI]) (by simp [tkI])), by have := HS.out; repeat (first | exact cs | exact Chg.drew ‹_› | refine Chg.drew ?_ | refine Chg.drewN ?_ _ | refine Grow.put ?_ (by omega) _)⟩
      · have HE := hide (tk_ok (n := n) (by omega) h2 (by omega))
        have hs := (Blk.new w 25 [.int .i64 F, .int .i64 T, .int .i64 E]).alloc (.cells [.int .i64 0, .int .i64 0, .int .i64 0].toArray 25)
        have hr := Blk.new (w.alloc (.cells [.int .i64 F, .int .i64 T, .int .i64 E].toArray 25)) 25 [.int .i64 0, .int .i64 0, .int .i64 0]
        have cs := Grow.two w (.cells [.int .i64 F, .int .i64 T, .int .i64 E].toArray 25) (.cells [.int .i64 0, .int .i64 0, .int .i64 0].toArray 25)
        rw [World.size_alloc] at hr
        go_enter Try.func11, Try.ntmps11
        go_wp2_with fail
        generalize (w.alloc (.cells #[.int .i64 F, .int .i64 T, .int .i64 E] 25)).alloc (.cells #[.int .i64 0, .int .i64 0, .int .i64 0] 25) = w0 at *
        obtain ⟨s, hS⟩ : ∃ s, s = w.heap.size := ⟨_, rfl⟩
        rw [← hS] at hs hr
        try rw [← hS]
        have HS := hide hS
        clear hS
        refine (right_any F T E _).mono ?_
        rintro e w1 ⟨rfl, c1⟩
        replace hs := hs.chg c1 id
        replace hr := hr.chg c1 id
        replace cs := cs.trans c1
        clear c1
        have a0 : w1.cell? ⟨s, 0, none⟩ = some (.int .i64 F) := hs.cell 0
        have a1 : w1.cell? ⟨s, 1, none⟩ = some (.int .i64 T) := hs.cell 1
        have a2 : w1.cell? ⟨s, 2, none⟩ = some (.int .i64 E) := hs.cell 2
        have sf0 := hs.frozen 0
        have sf1 := hs.frozen 1
        have sf2 := hs.frozen 2
        have r0 : w1.cell? ⟨s + 1, 0, none⟩ = some (.int .i64 0) := hr.cell 0
        have r1 : w1.cell? ⟨s + 1, 1, none⟩ = some (.int .i64 0) := hr.cell 1
        have r2 : w1.cell? ⟨s + 1, 2, none⟩ = some (.int .i64 0) := hr.cell 2
        have rf0 := hr.frozen 0
        have rf1 := hr.frozen 1
        have rf2 := hr.frozen 2
        have HB := hide hs
        have HR := hide hr
        clear hs hr
        go_wp2_with fail
        refine (room_ok F T E _ h2).mono ?_
        rintro e w2 ⟨rfl, c2⟩
        have hs := HB.out.chg c2 id
        have hr := HR.out.chg c2 id
        replace cs := cs.trans c2
        clear a0 a1 a2 sf0 sf1 sf2 r0 r1 r2 rf0 rf1 rf2
        clear c2 HB HR
        have a0 : w2.cell? ⟨s, 0, none⟩ = some (.int .i64 F) := hs.cell 0
        have a1 : w2.cell? ⟨s, 1, none⟩ = some (.int .i64 T) := hs.cell 1
        have a2 : w2.cell? ⟨s, 2, none⟩ = some (.int .i64 E) := hs.cell 2
        have sf0 := hs.frozen 0
        have sf1 := hs.frozen 1
        have sf2 := hs.frozen 2
        have r0 : w2.cell? ⟨s + 1, 0, none⟩ = some (.int .i64 0) := hr.cell 0
        have r1 : w2.cell? ⟨s + 1, 1, none⟩ = some (.int .i64 0) := hr.cell 1
        have r2 : w2.cell? ⟨s + 1, 2, none⟩ = some (.int .i64 0) := hr.cell 2
        have rf0 := hr.frozen 0
        have rf1 := hr.frozen 1
        have rf2 := hr.frozen 2
        go_wp2
        go_region
        go_wp2
        (try simp only [Exit.inBlock, Exit.then])
        refine bodyPost_ret (v := .tuple #[.int .i64 T, spV F (T + n) E, .int .i64 0]) (by simp [results, Try.results11, go_sem, r0, r1, r2]) rfl ?_
        exact ⟨ret_any (tk_tuple HE.out (by simp [tkI]) (by simp [tkI]) (by simp [tkI]) (by simp [tkI])), by have := HS.out; repeat (first | exact cs | exact Chg.drew ‹_› | refine Chg.drew ?_ | refine Chg.drewN ?_ _ | refine Grow.put ?_ (by omega) _)⟩
    · have h2' : riB F T E = false := by simpa using h2
      have HE := hide (tk_no (n := n) (.inr h2'))
      clear h2
      have hs := (Blk.new w 25 [.int .i64 F, .int .i64 T, .int .i64 E]).alloc (.cells [.int .i64 0, .int .i64 0, .int .i64 0].toArray 25)
      have hr := Blk.new (w.alloc (.cells [.int .i64 F, .int .i64 T, .int .i64 E].toArray 25)) 25 [.int .i64 0, .int .i64 0, .int .i64 0]
      have cs := Grow.two w (.cells [.int .i64 F, .int .i64 T, .int .i64 E].toArray 25) (.cells [.int .i64 0, .int .i64 0, .int .i64 0].toArray 25)
      rw [World.size_alloc] at hr
      go_enter Try.func11, Try.ntmps11
      go_wp2_with fail
      generalize (w.alloc (.cells #[.int .i64 F, .int .i64 T, .int .i64 E] 25)).alloc (.cells #[.int .i64 0, .int .i64 0, .int .i64 0] 25) = w0 at *
      obtain ⟨s, hS⟩ : ∃ s, s = w.heap.size := ⟨_, rfl⟩
      rw [← hS] at hs hr
      try rw [← hS]
      have HS := hide hS
      clear hS
      refine (right_any F T E _).mono ?_
      rintro e w1 ⟨rfl, c1⟩
      replace hs := hs.chg c1 id
      replace hr := hr.chg c1 id
      replace cs := cs.trans c1
      clear c1
      have a0 : w1.cell? ⟨s, 0, none⟩ = some (.int .i64 F) := hs.cell 0
      have a1 : w1.cell? ⟨s, 1, none⟩ = some (.int .i64 T) := hs.cell 1
      have a2 : w1.cell? ⟨s, 2, none⟩ = some (.int .i64 E) := hs.cell 2
      have sf0 := hs.frozen 0
      have sf1 := hs.frozen 1
      have sf2 := hs.frozen 2
      have r0 : w1.cell? ⟨s + 1, 0, none⟩ = some (.int .i64 0) := hr.cell 0
      have r1 : w1.cell? ⟨s + 1, 1, none⟩ = some (.int .i64 0) := hr.cell 1
      have r2 : w1.cell? ⟨s + 1, 2, none⟩ = some (.int .i64 0) := hr.cell 2
      have rf0 := hr.frozen 0
      have rf1 := hr.frozen 1
      have rf2 := hr.frozen 2
      clear hs hr
      go_wp2
      (try simp only [Exit.inBlock, Exit.then])
      refine bodyPost_ret (v := .tuple #[.int .i64 0, spV 0 0 0, .int .i64 1]) (by simp [results, Try.results11, go_sem, r0, r1, r2]) rfl ?_
      exact ⟨ret_any (tk_tuple HE.out (by simp [tkI]) (by simp [tkI]) (by simp [tkI]) (by simp [tkI])), by have := HS.out; repeat (first | exact cs | exact Chg.drew ‹_› | refine Chg.drew ?_ | refine Chg.drewN ?_ _ | refine Grow.put ?_ (by omega) _)⟩

set_option maxHeartbeats 1000000 in
theorem rtake_any (F T E n : Int) (w : World) (hn : n ≤ 9223372036854775807) :
    Calls Try.prog 12 #[spV F T E, .int .i64 n] w fun e w' => e = .returned (.tuple #[.int .i64 (tkI (tkX F T E n) T), spV (tkI (tkX F T E n) F) (tkI (tkX F T E n) (T + n)) (tkI (tkX F T E n) E), .int .i64 (tkX F T E n)]) ∧ Grow w w' := by
  by_cases h1 : n < 1
  · have HE := hide (tk_no (F := F) (T := T) (E := E) (.inl h1))
    go_enter Try.func12, Try.ntmps12
    go_wp2
    go_returns
    exact ⟨ret_any (tk_tuple HE.out (by simp [tkI]) (by simp [tkI]) (by simp [tkI]) (by simp [tkI])), Grow.two _ _ _⟩
  · by_cases h2 : riB F T E = true
    · obtain ⟨b1, b2, b3, b4⟩ := ri_true h2
      by_cases h3 : E - T < n
      · have HE := hide (tk_full (n := n) (by omega) h2 h3)
        have hs := (Blk.new w 23 [.int .i64 F, .int .i64 T, .int .i64 E]).alloc (.cells [.int .i64 0, .int .i64 0, .int .i64 0].toArray 23)
        have hr := Blk.new (w.alloc (.cells [.int .i64 F, .int .i64 T, .int .i64 E].toArray 23)) 23 [.int .i64 0, .int .i64 0, .int .i64 0]
        have cs := Grow.two w (.cells [.int .i64 F, .int .i64 T, .int .i64 E].toArray 23) (.cells [.int .i64 0, .int .i64 0, .int .i64 0].toArray 23)
        rw [World.size_alloc] at hr
        go_enter Try.func12, Try.ntmps12
        go_wp2_with fail
        generalize (w.alloc (.cells #[.int .i64 F, .int .i64 T, .int .i64 E] 23)).alloc (.cells #[.int .i64 0, .int .i64 0, .int .i64 0] 23) = w0 at *
        obtain ⟨s, hS⟩ : ∃ s, s = w.heap.size := ⟨_, rfl⟩
        rw [← hS] at hs hr
        try rw [← hS]
        have HS := hide hS
        clear hS
        refine (rright_any F T E _).mono ?_
        rintro e w1 ⟨rfl, c1⟩
        replace hs := hs.chg c1 id
        replace hr := hr.chg c1 id
        replace cs := cs.trans c1
        clear c1
        have a0 : w1.cell? ⟨s, 0, none⟩ = some (.int .i64 F) := hs.cell 0
        have a1 : w1.cell? ⟨s, 1, none⟩ = some (.int .i64 T) := hs.cell 1
        have a2 : w1.cell? ⟨s, 2, none⟩ = some (.int .i64 E) := hs.cell 2
        have sf0 := hs.frozen 0
        have sf1 := hs.frozen 1
        have sf2 := hs.frozen 2
        have r0 : w1.cell? ⟨s + 1, 0, none⟩ = some (.int .i64 0) := hr.cell 0
        have r1 : w1.cell? ⟨s + 1, 1, none⟩ = some (.int .i64 0) := hr.cell 1
        have r2 : w1.cell? ⟨s + 1, 2, none⟩ = some (.int .i64 0) := hr.cell 2
        have rf0 := hr.frozen 0
        have rf1 := hr.frozen 1
        have rf2 := hr.frozen 2
        go_wp2
        (try simp only [Exit.inBlock, Exit.then])
        refine bodyPost_ret (v := .tuple #[.int .i64 0, spV 0 0 0, .int .i64 3]) (by simp [results, Try.results12, go_sem, r0, r1, r2]) rfl ?_
        exact ⟨ret_any (tk_tuple HE.out (by simp [tkI]) (by simp [tkI]) (by simp [tkI]) (by simp [tkI])), by have := HS.out; repeat (first | exact cs | exact Chg.drew ‹_› | refine Chg.drew ?_ | refine Chg.drewN ?_ _ | refine Grow.put ?_ (by omega) _)⟩
      · have HE := hide (tk_ok (n := n) (by omega) h2 (by omega))
        have hs := (Blk.new w 23 [.int .i64 F, .int .i64 T, .int .i64 E]).alloc (.cells [.int .i64 0, .int .i64 0, .int .i64 0].toArray 23)
        have hr := Blk.new (w.alloc (.cells [.int .i64 F, .int .i64 T, .int .i64 E].toArray 23)) 23 [.int .i64 0, .int .i64 0, .int .i64 0]
        have cs := Grow.two w (.cells [.int .i64 F, .int .i64 T, .int .i64 E].toArray 23) (.cells [.int .i64 0, .int .i64 0, .int .i64 0].toArray 23)
        rw [World.size_alloc] at hr
        go_enter Try.func12, Try.ntmps12
        go_wp2_with fail
        generalize (w.alloc (.cells #[.int .i64 F, .int .i64 T, .int .i64 E] 23)).alloc (.cells #[.int .i64 0, .int .i64 0, .int .i64 0] 23) = w0 at *
        obtain ⟨s, hS⟩ : ∃ s, s = w.heap.size := ⟨_, rfl⟩
        rw [← hS] at hs hr
        try rw [← hS]
        have HS := hide hS
        clear hS
        refine (rright_any F T E _).mono ?_
        rintro e w1 ⟨rfl, c1⟩
        replace hs := hs.chg c1 id
        replace hr := hr.chg c1 id
        replace cs := cs.trans c1
        clear c1
        have a0 : w1.cell? ⟨s, 0, none⟩ = some (.int .i64 F) := hs.cell 0
        have a1 : w1.cell? ⟨s, 1, none⟩ = some (.int .i64 T) := hs.cell 1
        have a2 : w1.cell? ⟨s, 2, none⟩ = some (.int .i64 E) := hs.cell 2
        have sf0 := hs.frozen 0
        have sf1 := hs.frozen 1
        have sf2 := hs.frozen 2
        have r0 : w1.cell? ⟨s + 1, 0, none⟩ = some (.int .i64 0) := hr.cell 0
        have r1 : w1.cell? ⟨s + 1, 1, none⟩ = some (.int .i64 0) := hr.cell 1
        have r2 : w1.cell? ⟨s + 1, 2, none⟩ = some (.int .i64 0) := hr.cell 2
        have rf0 := hr.frozen 0
        have rf1 := hr.frozen 1
        have rf2 := hr.frozen 2
        go_wp2
        go_region
        go_wp2
        (try simp only [Exit.inBlock, Exit.then])
        refine bodyPost_ret (v := .tuple #[.int .i64 T, spV F (T + n) E, .int .i64 0]) (by simp [results, Try.results12, go_sem, r0, r1, r2]) rfl ?_
        exact ⟨ret_any (tk_tuple HE.out (by simp [tkI]) (by simp [tkI]) (by simp [tkI]) (by simp [tkI])), by have := HS.out; repeat (first | exact cs | exact Chg.drew ‹_› | refine Chg.drew ?_ | refine Chg.drewN ?_ _ | refine Grow.put ?_ (by omega) _)⟩
    · have h2' : riB F T E = false := by simpa using h2
      have HE := hide (tk_no (n := n) (.inr h2'))
      clear h2
      have hs := (Blk.new w 23 [.int .i64 F, .int .i64 T, .int .i64 E]).alloc (.cells [.int .i64 0, .int .i64 0, .int .i64 0].toArray 23)
      have hr := Blk.new (w.alloc (.cells [.int .i64 F, .int .i64 T, .int .i64 E].toArray 23)) 23 [.int .i64 0, .int .i64 0, .int .i64 0]
      have cs := Grow.two w (.cells [.int .i64 F, .int .i64 T, .int .i64 E].toArray 23) (.cells [.int .i64 0, .int .i64 0, .int .i64 0].toArray 23)
      rw [World.size_alloc] at hr
      go_enter Try.func12, Try.ntmps12
      go_wp2_with fail
      generalize (w.alloc (.cells #[.int .i64 F, .int .i64 T, .int .i64 E] 23)).alloc (.cells #[.int .i64 0, .int .i64 0, .int .i64 0] 23) = w0 at *
      obtain ⟨s, hS⟩ : ∃ s, s = w.heap.size := ⟨_, rfl⟩
      rw [← hS] at hs hr
      try rw [← hS]
      have HS := hide hS
      clear hS
      refine (rright_any F T E _).mono ?_
      rintro e w1 ⟨rfl, c1⟩
      replace hs := hs.chg c1 id
      replace hr := hr.chg c1 id
      replace cs := cs.trans c1
      clear c1
      have a0 : w1.cell? ⟨s, 0, none⟩ = some (.int .i64 F) := hs.cell 0
      have a1 : w1.cell? ⟨s, 1, none⟩ = some (.int .i64 T) := hs.cell 1
      have a2 : w1.cell? ⟨s, 2, none⟩ = some (.int .i64 E) := hs.cell 2
      have sf0 := hs.frozen 0
      have sf1 := hs.frozen 1
      have sf2 := hs.frozen 2
      have r0 : w1.cell? ⟨s + 1, 0, none⟩ = some (.int .i64 0) := hr.cell 0
      have r1 : w1.cell? ⟨s + 1, 1, none⟩ = some (.int .i64 0) := hr.cell 1
      have r2 : w1.cell? ⟨s + 1, 2, none⟩ = some (.int .i64 0) := hr.cell 2
      have rf0 := hr.frozen 0
      have rf1 := hr.frozen 1
      have rf2 := hr.frozen 2
      clear hs hr
      go_wp2
      (try simp only [Exit.inBlock, Exit.then])
      refine bodyPost_ret (v := .tuple #[.int .i64 0, spV 0 0 0, .int .i64 1]) (by simp [results, Try.results12, go_sem, r0, r1, r2]) rfl ?_
      exact ⟨ret_any (tk_tuple HE.out (by simp [tkI]) (by simp [tkI]) (by simp [tkI]) (by simp [tkI])), by have := HS.out; repeat (first | exact cs | exact Chg.drew ‹_› | refine Chg.drew ?_ | refine Chg.drewN ?_ _ | refine Grow.put ?_ (by omega) _)⟩

end Go.Proofs.Ytbnnoelioiafdaa
