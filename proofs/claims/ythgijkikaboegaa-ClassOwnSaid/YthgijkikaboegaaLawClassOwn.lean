/- For all classes and numbers ClassOwn answers true: a table keeps the classes that it was told, whatever becomes of the list; a nil one has none. Conditions: none. -/
import Derived.Test.YthgijkikaboegaaAwake
import Derived.ShutString
namespace Go.Proofs.Ythgijkikaboegaa.classOwn
open Go.ChangeShapes Go.WideShapes Go.ChangeAt Go.RowKit
set_option linter.unusedVariables false

/-- append, by what it comes to. -/
theorem wpList_app {P : Program} {ops : Array Oper} {rest : List Oper} {o : Oper} {a : Act} {Q : Exit → Act → World → Prop} (hgd : o.guard = none) (s x : Operand) (t : TypeId)
    (ho : o.op = .call { callee := .builtin .append, args := #[s, x], argTypes := #[t, t] }) (v1 v2 v' : Value) (w w' : World) (hs : a.eval s = v1) (hx : a.eval x = v2)
    (hr : (Builtin.append_ #[t, t] o.type #[v1, v2]).run P w = .ok v' w') (h : wpList P ops Q rest (a.put o.dst v') w') : wpList P ops Q (o :: rest) a w := by
  refine wpList_plain hgd fun K hK => ?_
  unfold Oper.wp
  simp [execOp, ho, resolve, invoke, builtin, hs, hx, hr, Result.andThen]
  exact hK _ _ h
theorem app_any (a : Option Addr) (len cap : Nat) (cs : List Cl) (w : World) (h : IsCls w a len cap cs) (hn : a = none → cap = 0) (hl : len ≤ 100) :
    ∃ ga gc w', (Builtin.append_ #[22, 22] 22 #[.slice (some ⟨w.heap.size, 0, none⟩) 0 0, .slice a len cap]).run Try.prog (w.alloc (.cells #[] 26)) = .ok (.slice ga len gc) w' ∧
      w'.ownsRow w.heap.size 26 4 (.slice ga len gc) len (clCells cs) ∧ Grow w w' := by
  obtain ⟨i0, hi0, hz0, hz1, hz2⟩ := info_parts Try.infoCl
  have ho := World.ownsRow_lit (e := 26) (size := 4) (base := w.heap.size) w #[] 0 (Nat.le_refl _) (by simp [maxLen]) rfl
  cases a with
  | none =>
    have h0 : len = 0 := by
      rcases Nat.eq_zero_or_pos len with h' | h'
      · exact h'
      · obtain ⟨b, off, c, h'', _⟩ := h.at_ h'
        cases h''
    subst h0
    obtain rfl : cap = 0 := hn rfl
    have hc : cs = [] := List.eq_nil_of_length_eq_zero h.1
    subst hc
    exact ⟨_, _, _, run_append_owned_none _ w.heap.size 22 _ 26 i0 4 Try.underlying22 hi0 _ 0 _ ho, ho, Grow.box _ _⟩
  | some x =>
    have hlen := h.len
    obtain ⟨v', w', hr, hown, hgrow, -⟩ := run_append_own (P := Try.prog) (w.alloc (.cells #[] 26)) w.heap.size 22 22 26 i0 (clV 0 0 0 false) 4 32 Try.underlying22 hi0 hz0 hz1 hz2 rfl (by decide)
      _ 0 _ ho x len cap (clCells cs) (by rw [clCells_length, hlen]) (fun j u hj => Grow.cell (Grow.box _ _) (h.cells rfl j u hj)) (clCells_one cs) (by unfold maxLen; omega) (by omega) (by simp)
    rw [Nat.zero_add] at hown
    obtain ⟨ga, gc, rfl⟩ := own_len hown
    exact ⟨ga, gc, w', hr, by simpa using hown, Chg.grownOwn (Grow.box _ _) ho (Nat.le_refl _) hgrow⟩
theorem own_cls {w : World} {base : Nat} {a : Option Addr} {len cap : Nat} {cs : List Cl} (h : w.ownsRow base 26 4 (.slice a len cap) len (clCells cs)) (hlen : cs.length = len) (hr : ∀ c ∈ cs, c.r ≤ 9223372036854775807) : IsCls w a len cap cs := by
  have hc : len ≤ cap ∧ cap ≤ maxLen := by
    rcases h.2 with ⟨e, h0⟩ | ⟨g, c, cur, e, _, _, h1, h2, _⟩
    · injection e with e1 e2 e3
      subst e2 e3
      exact ⟨Nat.le_refl _, by simp [maxLen]⟩
    · injection e with e1 e2 e3
      subst e3
      exact ⟨h1, h2⟩
  refine ⟨hlen, hc.1, hc.2, fun h0 => ?_, hr⟩
  obtain ⟨g, rfl, _⟩ := own_two h h0
  refine ⟨g, 0, rfl, fun i c hci => ?_⟩
  have hi : i < len := by rw [← hlen]; exact (List.getElem?_eq_some_iff.1 hci).1
  have a0 := clCells_at cs i 0 c hci (by decide)
  have a1 := clCells_at cs i 1 c hci (by decide)
  have a2 := clCells_at cs i 2 c hci (by decide)
  have a3 := clCells_at cs i 3 c hci (by decide)
  rw [Nat.zero_add]
  refine ⟨?_, ?_, ?_, ?_⟩
  · rw [h.cellAt _ (by omega)]; exact a0
  · rw [h.cellAt _ (by omega)]; exact a1
  · rw [h.cellAt _ (by omega)]; exact a2
  · rw [h.cellAt _ (by omega)]; exact a3

set_option maxHeartbeats 1000000 in
theorem walk_long (a : Option Addr) (len cap : Nat) (n : Int) (w : World) (hl : 100 < len) :
    Calls Try.prog 5 #[.slice a len cap, .int .i64 n] w fun e w' => e = .returned (.bool true) ∧ Below w.heap.size w w' := by
  go_enter Try.func5, Try.ntmps5
  go_wp2_with fail
  refine (awake_any _).mono ?_
  rintro e wa ⟨rfl, ca⟩
  go_wp2_with fail
  refine (awake_any _).mono ?_
  rintro e wb ⟨rfl, cb⟩
  go_wp2
  go_ret
  exact ⟨rfl, (ca.trans cb).below (fun _ _ h => h) (Nat.le_refl _)⟩
set_option maxHeartbeats 4000000 in
set_option maxRecDepth 100000 in
theorem walk_main (a : Option Addr) (len cap : Nat) (cs : List Cl) (n : Int) (w : World) (h : IsCls w a len cap cs) (hn : a = none → cap = 0) (hl : len ≤ 100) :
    Calls Try.prog 5 #[.slice a len cap, .int .i64 n] w fun e w' => e = .returned (.bool true) ∧ Below w.heap.size w w' := by
  have H := hide h
  have HL := hide h.len
  have hl' : decide ((len : Int) > 100) = false := by simp; omega
  have HN := hide hn
  clear h hn
  go_enter Try.func5, Try.ntmps5
  go_wp2_with fail
  refine (awake_any _).mono ?_
  rintro e wa ⟨rfl, ca⟩
  obtain ⟨ga, gc, w1, kA, ho, c1⟩ := app_any a len cap cs wa (H.out.chg ca (fun _ _ => id)) HN.out hl
  have HI := hide (own_cls ho HL.out H.out.2.2.2.2)
  have HO := hide ho
  have hb : w.heap.size ≤ wa.heap.size := ca.size
  have hb1 : wa.heap.size ≤ w1.heap.size := c1.size
  replace ca := ca.trans c1
  have KA := hide kA
  clear ho c1 kA
  go_wp2_with (at_builtin; refine wpList_app rfl _ _ 22 rfl (.slice (some ⟨wa.heap.size, 0, none⟩) 0 0) (.slice a len cap) (.slice ga len gc) _ w1 rfl rfl KA.out ?_)
  clear hl' KA
  have HG := hide (show ∀ gb, ga = some ⟨gb, 0, none⟩ → wa.heap.size ≤ gb ∧ gb < w1.heap.size by rintro gb rfl; exact HO.out.lt gb rfl)
  have HB1 := hide (show ∀ i, i < w.heap.size → ¬ (wa.heap.size ≤ i ∧ i < w1.heap.size) by intro i hi hs; omega)
  by_cases hX : newX cs = 0
  · have HX := hide hX
    clear hX
    refine (new_yes _ HI.out hl HX.out).mono ?_
    rintro e w2 ⟨g, v, rfl, ht, c2⟩
    have HT := hide ht
    replace HO := hide (own_grow HO.out c2)
    replace ca := ca.trans c2
    clear ht c2 HI
    go_wp2
    go_loopw [38] (fun i wr => ∃ j : Nat, j ≤ len ∧ i = .int .i64 j ∧ Chg (fun i => wa.heap.size ≤ i ∧ i < w1.heap.size) w2 wr ∧ ∃ xs, wr.ownsRow wa.heap.size 26 4 (.slice ga len gc) len xs) (fun i _ => len - (intOf i).toNat)
    case atStart => exact ⟨0, Nat.zero_le _, rfl, Chg.refl _ _, _, HO.out⟩
    case round =>
      obtain ⟨j, hj, rfl, cr, xs, hxs⟩ := hrel
      by_cases hlt : j < len
      · obtain ⟨gb, rfl, -, -⟩ := own_two hxs (by omega)
        have hS := HG.out gb rfl
        have hlx : xs.length = len * 4 := hxs.1
        obtain ⟨y0, hy0⟩ : ∃ y, xs[j * 4]? = some y := ⟨_, List.getElem?_eq_getElem (by omega)⟩
        obtain ⟨y1, hy1⟩ : ∃ y, xs[j * 4 + 1]? = some y := ⟨_, List.getElem?_eq_getElem (by omega)⟩
        obtain ⟨y2, hy2⟩ : ∃ y, xs[j * 4 + 2]? = some y := ⟨_, List.getElem?_eq_getElem (by omega)⟩
        obtain ⟨y3, hy3⟩ : ∃ y, xs[j * 4 + 3]? = some y := ⟨_, List.getElem?_eq_getElem (by omega)⟩
        have e0 := (hxs.cellAt (j * 4) (by omega)).trans hy0
        have e1 := (hxs.cellAt (j * 4 + 1) (by omega)).trans hy1
        have e2 := (hxs.cellAt (j * 4 + 2) (by omega)).trans hy2
        have e3 := (hxs.cellAt (j * 4 + 3) (by omega)).trans hy3
        have f0 := hxs.frozenAt (j * 4)
        have f1 := hxs.frozenAt (j * 4 + 1)
        have f2 := hxs.frozenAt (j * 4 + 2)
        have f3 := hxs.frozenAt (j * 4 + 3)
        have S4 := hide ((((hxs.stored (j * 4) (.int .i64 1)).1.stored (j * 4 + 1) (.int .i64 7)).1.stored (j * 4 + 2) (.int .i64 0)).1.stored (j * 4 + 3) (.bool false)).1
        have C4 := hide ((((cr.setCell (p := ⟨gb, j * 4, none⟩) (fun _ => hS) (.int .i64 1)).setCell (p := ⟨gb, j * 4 + 1, none⟩) (fun _ => hS) (.int .i64 7)).setCell (p := ⟨gb, j * 4 + 2, none⟩) (fun _ => hS) (.int .i64 0)).setCell (p := ⟨gb, j * 4 + 3, none⟩) (fun _ => hS) (.bool false))
        clear hxs hy0 hy1 hy2 hy3 hlx cr HO
        go_wp2
        go_roundw
        case rel => exact ⟨j + 1, by omega, by go_num, C4.out, _, S4.out⟩
        case measure => simp [intOf]; omega
      · obtain rfl : j = len := by omega
        go_wp2
        clear hxs HO
        replace ca := (ca.mono (T := fun _ => False) (S := fun i => wa.heap.size ≤ i ∧ i < w1.heap.size) (fun _ _ h => h.elim)).trans cr
        replace HT := hide (HT.out.chg cr (fun i hi => hi.2))
        clear cr
        go_loopw [48] (fun i wq => ∃ m : Nat, m ≤ j ∧ i = .int .i64 m ∧ Grow wr wq) (fun i _ => j - (intOf i).toNat)
        case atStart => exact ⟨0, Nat.zero_le _, rfl, Chg.refl _ _⟩
        case round =>
          obtain ⟨m, hm, rfl, cq⟩ := hrel
          have cz := ca.trans (cq.mono (S := fun i => wa.heap.size ≤ i ∧ i < w1.heap.size) (fun _ _ h => h.elim))
          by_cases hlt : m < j
          · obtain ⟨b, off, c, rfl, hc, hat, hM⟩ := (H.out.chg cz (fun i hi => HB1.out i hi)).at_ hlt
            obtain ⟨K, R, D, f⟩ := c
            have HC := hide hc
            have HLL := hide (show cs.length ≤ 100 by rw [HL.out]; exact hl)
            have HAT := hide hat
            have kR : ∀ W : World, (Op.equalIn 10000 26 (.agg #[.int .i64 K, .int .i64 R, .int .i64 D, .bool f]) (.agg #[.int .i64 K, .int .i64 R, .int .i64 D, .bool f])).run Try.prog W = .ok true W := fun W => by
              rw [sameC, decide_eq_true ⟨rfl, rfl, rfl, rfl⟩]
            clear hc hat hM cz
            go_wp2_with fail
            refine (of_in (HT.out.grow cq) HLL.out HC.out rfl).mono ?_
            rintro e w4 ⟨rfl, c4⟩
            replace cq := cq.trans c4
            replace HAT := hide (HAT.out.chg c4 id)
            clear c4
            have hx := Blk.new w4 26 [.int .i64 K, .int .i64 R, .int .i64 D, .bool f]
            replace cq := cq.alloc (.cells [.int .i64 K, .int .i64 R, .int .i64 D, .bool f].toArray 26)
            replace HAT := hide (HAT.out.chg (Grow.box w4 (.cells [.int .i64 K, .int .i64 R, .int .i64 D, .bool f].toArray 26)) id)
            obtain ⟨e0, e1, e2, e3⟩ := HAT.out
            obtain ⟨x0, x1, x2, x3⟩ := hx.cell4
            dsimp only at e0 e1 e2 e3
            clear hx
            go_wp2_with fail
            refine wp_region_grow (by kernel_rfl) (by kernel_rfl) ?_
            repeat (
              with_reducible refine wpQuiet_step ?_
              intro K hK
              first
                | ((with_reducible refine quiet_offT rfl ?_ (hK _ ?_)); focus (refine ⟨_, rfl, ?_⟩; with_reducible rfl))
                | ((with_reducible refine quiet_offF rfl ?_ (hK _ ?_)); focus (refine ⟨_, rfl, ?_⟩; with_reducible rfl))
                | ((with_reducible refine quiet_offN rfl ?_ (hK _ ?_)); focus (exact rfl))
                | ((first | with_reducible refine quiet_free rfl ?_ | ((with_reducible refine quiet_on rfl ?_ ?_); focus (refine ⟨_, rfl, ?_⟩; with_reducible rfl)))
                   apply Exists.intro
                   refine ⟨fun W hW => ?_, hK _ ?_⟩
                   focus (have q0 := Grow.cell hW x0; have q1 := Grow.cell hW x1; have q2 := Grow.cell hW x2; have q3 := Grow.cell hW x3; have q4 := Grow.cell hW e0; have q5 := Grow.cell hW e1; have q6 := Grow.cell hW e2; have q7 := Grow.cell hW e3; go_simp; first | done | with_reducible rfl))
              clear hK K
              simp only [Act.put, List.setIfInBounds_toArray, List.set_cons_zero, List.set_cons_succ])
            with_reducible refine wpQuiet_nil ?_
            intro w5 c5
            replace cq := cq.trans c5
            clear c5 x0 x1 x2 x3 e0 e1 e2 e3 HAT kR
            go_wp2
            go_roundw
            case rel => exact ⟨m + 1, by omega, by go_num, cq⟩
            case measure => simp [intOf]; omega
          · obtain rfl : m = j := by omega
            clear H HL
            go_wp2_with fail
            refine (of_out (Tb.nil _ 0) (show n < 1 ∨ ((0 : Nat) : Int) < n by omega)).mono ?_
            rintro e n1 ⟨rfl, d1⟩
            have cn := d1.alloc (.cells [.int .i64 0, .int .i64 0, .int .i64 0, .bool false].toArray 26)
            clear d1
            go_wp2_with fail
            refine (shape_none (Tb.nil _ 0) (clAt_out (cs := []) (show n < 1 ∨ ((0 : Nat) : Int) < n by omega))).mono ?_
            rintro e n2 ⟨rfl, d2⟩
            replace cn := cn.trans d2
            clear d2
            go_wp2_with fail
            refine (words_is (V := 0) (X := 4) (Tb.nil _ 0) (by decide) (by decide) (by rw [clAt_out (cs := []) (show n < 1 ∨ ((0 : Nat) : Int) < n by omega)]; rfl) (by rw [clAt_out (cs := []) (show n < 1 ∨ ((0 : Nat) : Int) < n by omega)]; rfl)).mono ?_
            rintro e n3 ⟨rfl, d3⟩
            replace cn := cn.trans d3
            clear d3
            go_wp2_with fail
            refine (len_any (Tb.nil _ 0)).mono ?_
            rintro e w' ⟨rfl, rfl⟩
            go_wp2_with fail
            refine (holds_is (b := false) (Tb.nil _ 0) (by decide) (by rw [clAt_out (cs := []) (show n < 1 ∨ ((0 : Nat) : Int) < n by omega)]; rfl)).mono ?_
            rintro e n4 ⟨rfl, d4⟩
            replace cn := cn.trans d4
            clear d4
            go_wp2
            go_ret
            exact ⟨rfl, (cz.trans (cn.mono (fun _ _ h => h.elim))).below (fun i hi => HB1.out i hi) (Nat.le_refl _)⟩
  · obtain ⟨X, hX'⟩ : ∃ X, newX cs = X := ⟨_, rfl⟩
    rw [hX'] at hX
    have HX := hide hX'
    have H0 := hide hX
    have hx' : (X == 0) = false := by simpa using hX
    clear hX hX'
    refine (new_no _ HI.out hl HX.out H0.out).mono ?_
    rintro e w2 ⟨rfl, c2⟩
    replace HO := hide (own_grow HO.out c2)
    replace ca := ca.trans c2
    clear c2 HI
    go_wp2
    go_loopw [38] (fun i wr => ∃ j : Nat, j ≤ len ∧ i = .int .i64 j ∧ Chg (fun i => wa.heap.size ≤ i ∧ i < w1.heap.size) w2 wr ∧ ∃ xs, wr.ownsRow wa.heap.size 26 4 (.slice ga len gc) len xs) (fun i _ => len - (intOf i).toNat)
    case atStart => exact ⟨0, Nat.zero_le _, rfl, Chg.refl _ _, _, HO.out⟩
    case round =>
      obtain ⟨j, hj, rfl, cr, xs, hxs⟩ := hrel
      by_cases hlt : j < len
      · obtain ⟨gb, rfl, -, -⟩ := own_two hxs (by omega)
        have hS := HG.out gb rfl
        have hlx : xs.length = len * 4 := hxs.1
        obtain ⟨y0, hy0⟩ : ∃ y, xs[j * 4]? = some y := ⟨_, List.getElem?_eq_getElem (by omega)⟩
        obtain ⟨y1, hy1⟩ : ∃ y, xs[j * 4 + 1]? = some y := ⟨_, List.getElem?_eq_getElem (by omega)⟩
        obtain ⟨y2, hy2⟩ : ∃ y, xs[j * 4 + 2]? = some y := ⟨_, List.getElem?_eq_getElem (by omega)⟩
        obtain ⟨y3, hy3⟩ : ∃ y, xs[j * 4 + 3]? = some y := ⟨_, List.getElem?_eq_getElem (by omega)⟩
        have e0 := (hxs.cellAt (j * 4) (by omega)).trans hy0
        have e1 := (hxs.cellAt (j * 4 + 1) (by omega)).trans hy1
        have e2 := (hxs.cellAt (j * 4 + 2) (by omega)).trans hy2
        have e3 := (hxs.cellAt (j * 4 + 3) (by omega)).trans hy3
        have f0 := hxs.frozenAt (j * 4)
        have f1 := hxs.frozenAt (j * 4 + 1)
        have f2 := hxs.frozenAt (j * 4 + 2)
        have f3 := hxs.frozenAt (j * 4 + 3)
        have S4 := hide ((((hxs.stored (j * 4) (.int .i64 1)).1.stored (j * 4 + 1) (.int .i64 7)).1.stored (j * 4 + 2) (.int .i64 0)).1.stored (j * 4 + 3) (.bool false)).1
        have C4 := hide ((((cr.setCell (p := ⟨gb, j * 4, none⟩) (fun _ => hS) (.int .i64 1)).setCell (p := ⟨gb, j * 4 + 1, none⟩) (fun _ => hS) (.int .i64 7)).setCell (p := ⟨gb, j * 4 + 2, none⟩) (fun _ => hS) (.int .i64 0)).setCell (p := ⟨gb, j * 4 + 3, none⟩) (fun _ => hS) (.bool false))
        clear hxs hy0 hy1 hy2 hy3 hlx cr HO
        go_wp2
        go_roundw
        case rel => exact ⟨j + 1, by omega, by go_num, C4.out, _, S4.out⟩
        case measure => simp [intOf]; omega
      · obtain rfl : j = len := by omega
        go_wp2
        clear hxs HO
        replace ca := (ca.mono (T := fun _ => False) (S := fun i => wa.heap.size ≤ i ∧ i < w1.heap.size) (fun _ _ h => h.elim)).trans cr
        clear cr
        go_loopw [48] (fun i wq => ∃ m : Nat, m ≤ j ∧ i = .int .i64 m ∧ wq = wr) (fun i _ => j - (intOf i).toNat)
        case atStart => exact ⟨0, Nat.zero_le _, rfl, rfl⟩
        case round =>
          obtain ⟨m, hm, rfl, rfl⟩ := hrel
          by_cases hlt : m < j
          · go_wp2
            go_roundw
            case rel => exact ⟨m + 1, by omega, by go_num, trivial⟩
            case measure => simp [intOf]; omega
          · obtain rfl : m = j := by omega
            have cz := ca
            clear H HL
            go_wp2_with fail
            refine (of_out (Tb.nil _ 0) (show n < 1 ∨ ((0 : Nat) : Int) < n by omega)).mono ?_
            rintro e n1 ⟨rfl, d1⟩
            have cn := d1.alloc (.cells [.int .i64 0, .int .i64 0, .int .i64 0, .bool false].toArray 26)
            clear d1
            go_wp2_with fail
            refine (shape_none (Tb.nil _ 0) (clAt_out (cs := []) (show n < 1 ∨ ((0 : Nat) : Int) < n by omega))).mono ?_
            rintro e n2 ⟨rfl, d2⟩
            replace cn := cn.trans d2
            clear d2
            go_wp2_with fail
            refine (words_is (V := 0) (X := 4) (Tb.nil _ 0) (by decide) (by decide) (by rw [clAt_out (cs := []) (show n < 1 ∨ ((0 : Nat) : Int) < n by omega)]; rfl) (by rw [clAt_out (cs := []) (show n < 1 ∨ ((0 : Nat) : Int) < n by omega)]; rfl)).mono ?_
            rintro e n3 ⟨rfl, d3⟩
            replace cn := cn.trans d3
            clear d3
            go_wp2_with fail
            refine (len_any (Tb.nil _ 0)).mono ?_
            rintro e w' ⟨rfl, rfl⟩
            go_wp2_with fail
            refine (holds_is (b := false) (Tb.nil _ 0) (by decide) (by rw [clAt_out (cs := []) (show n < 1 ∨ ((0 : Nat) : Int) < n by omega)]; rfl)).mono ?_
            rintro e n4 ⟨rfl, d4⟩
            replace cn := cn.trans d4
            clear d4
            go_wp2
            go_ret
            exact ⟨rfl, (cz.trans (cn.mono (fun _ _ h => h.elim))).below (fun i hi => HB1.out i hi) (Nat.le_refl _)⟩
theorem walk (a : Option Addr) (len cap : Nat) (cs : List Cl) (n : Int) (w : World) (h : IsCls w a len cap cs ∧ (a = none → cap = 0)) (wn : (Lit.int .i64 n).wf = true) :
    Calls Try.prog 5 #[.slice a len cap, .int .i64 n] w fun e w' => e = .returned (.bool true) ∧ Below w.heap.size w w' := by
  by_cases hl : len ≤ 100
  · exact walk_main a len cap cs n w h.1 h.2 hl
  · exact walk_long a len cap n w (by omega)

theorem own : ownKnob Try.prog.godebug = none := by kernel_rfl
theorem laidOut : laidOutB Try.prog = true := by kernel_rfl

set_option maxRecDepth 100000 in
theorem lifted (os : Os) (started : os.Started) (H : Type) (enc : TypeId × Value → H) :
    ReturnsInHanded {} Try.checked os 5 .any (Rows.classOwnSpec.pre6 enc Try.prog Try.f5 Rows.classOwnRow.domain false) (Rows.classOwnSpec.post enc Try.prog Try.f5 false true false false) := by
  refine returnsInHanded_of_change (C := Try.checked) own started (by kernel_rfl) Try.func5
    (ChangeSpec.witness6 (enc := enc) (C := Try.checked) false ⟨#[], #[.slice none 0 0, .int .i64 0], []⟩ 8 (by kernel_rfl) (by kernel_rfl) (by kernel_rfl) (by kernel_rfl)) ?_
  intro W base args ds gs before hval0 hW hcnd _
  have hval : ∀ (j : Nat) t v, Try.f5.params[j]? = some t → args[j]? = some v → Value.okWide Try.prog W .any base t v := hval0
  have hW' := hW
  obtain ⟨p, q, hA0, hV, rfl, hfz, hnd⟩ := hW
  have hA : DataW.TrodAll enc Try.prog W 0 (fun _ => true) true Try.f5.params.toList args.toList ds p := hA0
  rw [Try.params5] at hA hval
  obtain ⟨v0, vs0, d0, ds0, p0, q0, hargs, rfl, rfl, h0, r0⟩ := trodAll_cons hA
  obtain ⟨v1, vs1, d1, ds1, p1, q1, rfl, rfl, rfl, h1, r1⟩ := trodAll_cons r0
  obtain ⟨rfl, rfl, rfl⟩ := trodAll_nil r1
  obtain rfl : args = #[v0, v1] := by cases args; simp_all
  obtain ⟨rfl, rfl⟩ := trodVars_none hV
  have k0 := h0
  have lt0 : ∀ x ∈ p0, x.block < W.heap.size := by obtain ⟨m, hm⟩ := k0; exact DataW.trod_lt m _ _ _ hm
  obtain ⟨a0, len0, cap0, cs0, rfl, w0⟩ := open_cls0 (hval 0 22 v0 rfl rfl) h0
  obtain ⟨a1, rfl, rfl, rfl, w1⟩ := open_int Try.underlying3 (hval 1 3 v1 rfl rfl) h1
  clear hA0 hval0
  refine (walk a0 len0 cap0 cs0 a1 W w0 w1).mono fun e W' ⟨he, bel⟩ => ?_
  subst he
  exact ⟨_, rfl, _, _, _, [], _, [], hW', trodAll_mk1 (shut_bool Try.underlying4 _), (trodAll_cons_mk (Below.trod laidOut (by kernel_rfl) (of_decide_eq_true (by kernel_rfl)) k0 bel lt0) (trodAll_cons_mk (shut_int Try.underlying3 w1) trodAll_mk0)), rfl, bel.frame _, fun h => by cases h⟩

theorem over : Rows.classOwnRow.holds Try.pinned (OpenSpec.ofChange Rows.classOwnSpec) :=
  OpenClaim.holds_of_wide 5 Try.f5 rfl rfl rfl rfl rfl rfl rfl ⟨rfl, rfl, rfl, rfl, rfl⟩ rfl rfl rfl rfl rfl (by kernel_rfl) Try.func5 (by kernel_rfl)
    (of_decide_eq_true (by kernel_rfl)) (by unfold Func.isWrapper; first | (rw [if_pos (by decide +kernel)]; kernel_rfl) | (rw [if_neg (by decide +kernel)]; exact ⟨rfl, rfl⟩))
    (fun os started H enc _ => lifted os started H enc)

/-- The statement. -/
theorem proved : Rows.ClassOwnSaid := over
#print axioms proved
end Go.Proofs.Ythgijkikaboegaa.classOwn

