/- Lists of numbers that append made; append by what it comes to; a list that is read. Conditions: lists of at most 100000000 numbers. -/
import Derived.Test.YtogfjclmohpjkaaGreatDoorL1A
import Derived.Test.YtogfjclmohpjkaaGreatDoorInts
import Derived.Test.YtogfjclmohpjkaaGreatDoorOwn
import Derived.Lib.SliceRun
import Derived.Handy
import Derived.WalkMore
import Derived.Maps.AppendAt
import Derived.LoopTactic
namespace Go.Proofs.YtogfjclmohpjkaaGreatDoor.L15
open Go.ChangeShapes Go.WideShapes Go.ChangeAt Go.RowKit
set_option linter.unusedVariables false

theorem wpList_app {P : Program} {ops : Array Oper} {rest : List Oper} {o : Oper} {a : Act} {Q : Exit → Act → World → Prop} (hgd : o.guard = none) (s x : Operand) (t : TypeId)
    (ho : o.op = .call { callee := .builtin .append, args := #[s, x], argTypes := #[t, t] }) (v1 v2 v' : Value) (w w' : World) (hs : a.eval s = v1) (hx : a.eval x = v2)
    (hr : (Builtin.append_ #[t, t] o.type #[v1, v2]).run P w = .ok v' w') (h : wpList P ops Q rest (a.put o.dst v') w') : wpList P ops Q (o :: rest) a w := by
  refine wpList_plain hgd fun K hK => ?_
  unfold Oper.wp
  simp [execOp, ho, resolve, invoke, builtin, hs, hx, hr, Result.andThen]
  exact hK _ _ h
theorem own_ne {W : World} {base size n : Nat} {e t : TypeId} {v : Value} {xs cs : List Value} {g : Nat} (h : W.ownsRow base e size v n xs) (hb : Blk W g t cs) (hne : e ≠ t) : v.ownBlock ≠ some g := by
  rcases h.2 with ⟨rfl, _⟩ | ⟨g', cap, cur, rfl, _, hg, _⟩
  · intro e; cases e
  · intro e'
    have e2 : g' = g := by injection e'
    subst e2
    unfold Blk at hb
    rw [hg] at hb
    injection hb with hb
    injection hb with _ hb
    exact hne hb
theorem own_rd {w : World} {base : Nat} {a : Option Addr} {n c : Nat} {xs : List Int} (h : w.ownsRow base 3 1 (.slice a n c) n (ints xs)) : L1.Rd w a n xs := by
  have hl : xs.length = n := by have := h.1; rw [ints_length] at this; omega
  refine ⟨hl, fun hn => ?_⟩
  obtain ⟨g, cap, e, _, _, _, _, hc⟩ := own_ints h hn
  injection e with e1 e2 e3
  subst e1
  exact ⟨_, rfl, fun i hi => by rw [addr_add, Nat.zero_add]; exact hc i hi⟩
theorem _root_.Go.Proofs.YtogfjclmohpjkaaGreatDoor.L1.Rd.chg {S : Nat → Prop} {w w' : World} {a : Option Addr} {n : Nat} {xs : List Int} (h : L1.Rd w a n xs) (c : Chg S w w') (hs : ∀ x : Addr, a = some x → ¬ S x.block) : L1.Rd w' a n xs := by
  refine ⟨h.1, fun hn => ?_⟩
  obtain ⟨x, e, hx⟩ := h.2 hn
  exact ⟨x, e, fun i hi => c.cell (hx i hi) (by rw [add_block]; exact hs x e)⟩
theorem _root_.Go.Proofs.YtogfjclmohpjkaaGreatDoor.L1.Rd.grow {w w' : World} {a : Option Addr} {n : Nat} {xs : List Int} (h : L1.Rd w a n xs) (c : Grow w w') : L1.Rd w' a n xs := h.chg c fun _ _ => id
/-- A list of one number at least lies in a block that is there. -/
theorem _root_.Go.Proofs.YtogfjclmohpjkaaGreatDoor.L1.Rd.lt {w : World} {x : Addr} {n : Nat} {xs : List Int} (h : L1.Rd w (some x) n xs) (hn : 0 < n) : x.block < w.heap.size := by
  obtain ⟨y, e, hy⟩ := h.2 hn
  injection e with e
  subst e
  have := cell_lt (hy 0 hn)
  rwa [add_block] at this
theorem getD_mem {xs : List Int} {j : Nat} (hj : j < xs.length) : xs.getD j 0 ∈ xs := by
  rw [List.getD_eq_getElem?_getD, List.getElem?_eq_getElem hj]
  exact List.getElem_mem _
/-- A list of numbers that was made behind b. -/
abbrev OL (W : World) (b : Nat) (v : Value) (xs : List Int) : Prop := W.ownsRow b 3 1 v xs.length (ints xs)
section
variable {w W W' : World} {b g n c k : Nat} {v : Value} {xs ys : List Int} {a : Option Addr} {S : Nat → Prop}
theorem OL.form (h : OL W b v xs) : ∃ a c, v = .slice a xs.length c ∧ L1.Rd W a xs.length xs := by
  obtain ⟨a, c, rfl⟩ := own_len h
  exact ⟨a, c, rfl, own_rd h⟩
theorem OL.pos (h : OL W b v xs) (hn : 0 < xs.length) : ∃ g c, v = .slice (some ⟨g, 0, none⟩) xs.length c ∧ b ≤ g ∧ g < W.heap.size := by
  obtain ⟨g, c, e, h1, h2, _⟩ := own_form h hn
  exact ⟨g, c, e, h1, h2⟩
theorem OL.cell (h : OL W b (.slice (some ⟨g, 0, none⟩) xs.length c) xs) (hk : k < xs.length) : W.cell? ⟨g, k, none⟩ = some (.int .i64 (xs.getD k 0)) := by
  rw [h.cellAt k (by omega)]
  exact ints_get _ _ hk
theorem OL.cut (h : OL W b (.slice (some ⟨g, 0, none⟩) n c) xs) (hk : k ≤ xs.length) : OL W b (.slice (some ⟨g, 0, none⟩) k c) (xs.take k) := by
  have e : (xs.take k).length = k := by simp; omega
  unfold OL at *
  rw [e]
  rcases h.2 with ⟨h', _⟩ | ⟨g', cap', cur, h', hb, hg, hnc, hcm, hcs, htake⟩
  · cases h'
  · injection h' with h1 h2 h3
    subst h3
    refine ⟨by rw [ints_length, e]; omega, .inr ⟨g', c, cur, by rw [h1], hb, hg, by omega, hcm, hcs, ?_⟩⟩
    have : cur.toList.take (k * 1) = (cur.toList.take (xs.length * 1)).take k := by rw [List.take_take]; congr 1; omega
    rw [this, htake]
    simp [ints, List.map_take]
theorem OL.set (h : OL W b (.slice (some ⟨g, 0, none⟩) xs.length c) xs) (k : Nat) (u : Int) : OL (W.setCell ⟨g, k, none⟩ (.int .i64 u)) b (.slice (some ⟨g, 0, none⟩) xs.length c) (xs.set k u) := by
  have h1 := (h.stored k (.int .i64 u)).1
  unfold OL
  rw [List.length_set, ← ints_set]
  exact h1
theorem ol_nil (W : World) (b : Nat) : OL W b (.slice none 0 0) [] := World.ownsRow_nil _ _ _ _
theorem OL.chg (h : OL W b v xs) (d : Chg S W W') (hs : ∀ k, v.ownBlock = some k → ¬ S k) : OL W' b v xs := own_chg h d hs
theorem OL.grow (h : OL W b v xs) (d : Grow W W') : OL W' b v xs := own_grow h d
theorem OL.lower {b' : Nat} (h : OL W b v xs) (hb : b' ≤ b) : OL W b' v xs := by
  refine ⟨h.1, ?_⟩
  rcases h.2 with h | ⟨g, cap, cur, h1, h2, h3⟩
  · exact .inl h
  · exact .inr ⟨g, cap, cur, h1, Nat.le_trans hb h2, h3⟩
theorem OL.lit (W : World) (xs : List Int) (hl : xs.length ≤ 1000000000) : OL (W.alloc (.cells (ints xs).toArray 3)) W.heap.size (.slice (some ⟨W.heap.size, 0, none⟩) xs.length xs.length) xs :=
  World.ownsRow_lit (e := 3) (size := 1) (base := W.heap.size) W (ints xs).toArray xs.length (Nat.le_refl _) (by unfold maxLen; omega) (by simp [ints_length])
set_option maxRecDepth 100000 in
/-- append, by what it comes to. -/
theorem app_int (h : OL W b v xs) (hb : b ≤ W.heap.size) (hs : L1.Rd W a n ys) (hn : xs.length + n ≤ 100000000) :
    ∃ v' W', (Builtin.append_ #[37, 37] 37 #[v, .slice a n c]).run Tryz.prog W = .ok v' W' ∧ OL W' b v' (xs ++ ys) ∧ W.grownBy W' v.ownBlock ∧ (v'.ownBlock = v.ownBlock ∨ v'.ownBlock = some W.heap.size) := by
  obtain ⟨i0, hi0, hz0, hz1, hz2⟩ := info_parts Tryz.infoInt
  have hl := hs.1
  cases a with
  | none =>
    have h0 : n = 0 := by
      rcases Nat.eq_zero_or_pos n with h | h
      · exact h
      · obtain ⟨x, e, _⟩ := hs.2 h
        exact absurd e (by simp)
    subst h0
    obtain rfl : ys = [] := List.eq_nil_of_length_eq_zero hl
    refine ⟨v, W, ?_, by simpa using h, ⟨rfl, rfl, rfl, Nat.le_refl _, fun _ _ _ => rfl⟩, .inl rfl⟩
    have ht := Tryz.underlying37
    rcases h.2 with ⟨rfl, _⟩ | ⟨g, cap, cur, rfl, _, _, hnc, _⟩
    · simp [Builtin.append_, run_underlying ht, sizeOf, typeInfo, hi0, Builtin.lenOf, Builtin.firstCells]
    · simp [Builtin.append_, run_underlying ht, sizeOf, typeInfo, hi0, Builtin.lenOf, Builtin.firstCells, hnc, storeCells]
  | some ad =>
    have hc : ∀ j u, (ints ys)[j]? = some u → W.cell? (ad.add j) = some u := fun j u hu => by
      have hj : j < n := by have := (List.getElem?_eq_some_iff.1 hu).1; rw [ints_length] at this; omega
      obtain ⟨x, e, hx⟩ := hs.at_ hj
      injection e with e
      subst e
      rw [hx, ← ints_get ys j (by omega), hu]
    obtain ⟨v', W', hr, h4, h5, _, h6⟩ := run_append_own_at (P := Tryz.prog) W b 37 37 3 i0 (.int .i64 0) 1 8 Tryz.underlying37 hi0 hz0 hz1 hz2 rfl (by decide)
      v xs.length (ints xs) h ad n c (ints ys) (by rw [ints_length, hl]; omega) hc (ints_one ys) (by unfold maxLen; omega) (by omega) hb
    refine ⟨v', W', hr, ?_, h5, h6⟩
    unfold OL
    rw [List.length_append, hl, show ints (xs ++ ys) = ints xs ++ ints ys by simp [ints]]
    exact h4
/-- append onto a list that this call made. -/
theorem app_more {c0 : Nat} (cc : Grow w W) (h : OL W w.heap.size v xs) (hs : L1.Rd W a n ys) (hn : xs.length + n ≤ 100000000) :
    ∃ v' W', (Builtin.append_ #[37, 37] 37 #[v, .slice a n c0]).run Tryz.prog W = .ok v' W' ∧ OL W' w.heap.size v' (xs ++ ys) ∧ Grow w W' ∧ W.grownBy W' v.ownBlock := by
  obtain ⟨v', W', hr, ho, hg, _⟩ := app_int (c := c0) h cc.size hs hn
  exact ⟨v', W', hr, ho, Chg.grownOwn cc h (Nat.le_refl _) hg, hg⟩
/-- A list is in no block of another kind. -/
theorem OL.ne {t : TypeId} {cs : List Value} (h : OL W b v xs) (hb : Blk W g t cs) (hne : 3 ≠ t) : v.ownBlock ≠ some g := own_ne h hb hne
theorem OL.ne_map {x : Array _} {y : Nat} (h : OL W b v xs) (hb : W.heap[g]? = some (.map x y)) : v.ownBlock ≠ some g := by
  rcases h.2 with ⟨rfl, _⟩ | ⟨g', cap, cur, rfl, _, hg, _⟩
  · intro e; cases e
  · intro e'
    have e2 : g' = g := by injection e'
    subst e2
    rw [hg] at hb
    cases hb
end

section
variable {w : World} {fid : Nat} {lb : Array Value} {p : Int → Bool} {a : Option Addr} {n c g b : Nat} {xs : List Int}
theorem first_hit (p : Int → Bool) (xs : List Int) : (∀ j, j < xs.length → p (xs.getD j 0) = false) ∨ ∃ k, k < xs.length ∧ p (xs.getD k 0) = true ∧ ∀ j, j < k → p (xs.getD j 0) = false := by
  induction xs with
  | nil => exact .inl fun j hj => absurd hj (by simp)
  | cons x l ih =>
    cases h : p x with
    | true => exact .inr ⟨0, by simp, by simpa using h, fun j hj => absurd hj (by omega)⟩
    | false =>
      rcases ih with ih | ⟨k, h1, h2, h3⟩
      · refine .inl fun j hj => ?_
        cases j with
        | zero => simpa using h
        | succ j => simpa using ih j (by simpa using hj)
      · refine .inr ⟨k + 1, by simpa using h1, by simpa using h2, fun j hj => ?_⟩
        cases j with
        | zero => simpa using h
        | succ j => simpa using h3 j (by omega)
set_option maxRecDepth 100000 in
set_option maxHeartbeats 1000000 in
/-- The first that is hit. -/
theorem idx_hit (eg : ∀ args w, (callFunc fid args).run Tryz.prog w = .ok (.enter fid args) w) (hr : L1.Rd w a n xs) (hn : n < 1000000)
    (hp : ∀ W x, x ∈ xs → Grow w W → Calls Tryz.prog fid (#[.int .i64 x] ++ lb) W fun e w' => e = .returned (.bool (p x)) ∧ Grow W w') {k : Nat} (hk : k < n) (h1 : p (xs.getD k 0) = true) (h2 : ∀ j, j < k → p (xs.getD j 0) = false) :
    Calls Tryz.prog 124 #[.slice a n c, .func (.func fid) #[] lb] w fun e w' => e = .returned (.int .i64 k) ∧ Grow w w' := by
  have HR := hide hr
  have HP := hide hp
  have H1 := hide h1
  have H2 := hide h2
  have HL := hide (And.intro hk hn)
  clear hr hp h1 h2 hk hn
  go_enter Tryz.func124, Tryz.ntmps124
  go_wp2_with fail
  go_loopw [8] (fun v wr => ∃ j : Nat, j ≤ k ∧ v = .int .i64 j ∧ Grow w wr) (fun v _ => n - (Go.RowKit.intOf v).toNat)
  case atStart => exact ⟨0, Nat.zero_le _, rfl, Chg.refl _ _⟩
  case round =>
    obtain ⟨j, hj, rfl, gg⟩ := hrel
    have hjn : j < n := by have := HL.out; omega
    have q1 : decide ((j : Int) < n) = true := decide_eq_true (by omega)
    obtain ⟨x, rfl, hx⟩ := HR.out.at_ hjn
    replace hx := gg.cell hx
    have hw : IntKind.i64.wrap ((j : Int) + 1) = ((j + 1 : Nat) : Int) := (IntWalk.i64_in _ (by have := HL.out; omega)).trans (by omega)
    have hm : xs.getD j 0 ∈ xs := by
      have hjl : j < xs.length := by rw [HR.out.1]; exact hjn
      rw [List.getD_eq_getElem?_getD, List.getElem?_eq_getElem hjl]
      exact List.getElem_mem _
    have HC := hide (HP.out wr _ hm gg)
    have HJ := hide hjn
    rcases Nat.eq_or_lt_of_le hj with hje | hlt
    · subst hje
      have hb := H1.out
      rw [hb] at HC
      generalize xs.getD j 0 = u at *
      have HG := hide gg
      clear hj hm gg hb
      go_wp2_with fail
      refine HC.out.mono ?_
      rintro e w1 ⟨rfl, c1⟩
      go_wp2
      go_ret
      exact ⟨rfl, HG.out.trans c1⟩
    · have hb := H2.out j hlt
      rw [hb] at HC
      generalize xs.getD j 0 = u at *
      have HG := hide gg
      have HLT := hide hlt
      clear hj hm gg hb hlt
      go_wp2_with fail
      refine HC.out.mono ?_
      rintro e w1 ⟨rfl, c1⟩
      have HG1 := hide (HG.out.trans c1)
      clear c1 hx
      go_wp2
      go_roundw
      case rel => exact ⟨j + 1, HLT.out, rfl, HG1.out⟩
      case measure => have := HJ.out; simp [Go.RowKit.intOf]; omega
set_option maxRecDepth 100000 in
set_option maxHeartbeats 1000000 in
/-- None is hit. -/
theorem idx_none (eg : ∀ args w, (callFunc fid args).run Tryz.prog w = .ok (.enter fid args) w) (hr : L1.Rd w a n xs) (hn : n < 1000000)
    (hp : ∀ W x, x ∈ xs → Grow w W → Calls Tryz.prog fid (#[.int .i64 x] ++ lb) W fun e w' => e = .returned (.bool (p x)) ∧ Grow W w') (h2 : ∀ j, j < n → p (xs.getD j 0) = false) :
    Calls Tryz.prog 124 #[.slice a n c, .func (.func fid) #[] lb] w fun e w' => e = .returned (.int .i64 (-1)) ∧ Grow w w' := by
  have HR := hide hr
  have HP := hide hp
  have H2 := hide h2
  have HL := hide hn
  clear hr hp h2 hn
  go_enter Tryz.func124, Tryz.ntmps124
  go_wp2_with fail
  go_loopw [8] (fun v wr => ∃ j : Nat, j ≤ n ∧ v = .int .i64 j ∧ Grow w wr) (fun v _ => n - (Go.RowKit.intOf v).toNat)
  case atStart => exact ⟨0, Nat.zero_le _, rfl, Chg.refl _ _⟩
  case round =>
    obtain ⟨j, hj, rfl, gg⟩ := hrel
    rcases Nat.eq_or_lt_of_le hj with hje | hjn
    · subst hje
      have q1 : decide ((j : Int) < j) = false := by simp
      have HG := hide gg
      clear gg hj
      go_wp2
      go_ret
      exact ⟨rfl, HG.out⟩
    · have q1 : decide ((j : Int) < n) = true := decide_eq_true (by omega)
      obtain ⟨x, rfl, hx⟩ := HR.out.at_ hjn
      replace hx := gg.cell hx
      have hw : IntKind.i64.wrap ((j : Int) + 1) = ((j + 1 : Nat) : Int) := (IntWalk.i64_in _ (by have := HL.out; omega)).trans (by omega)
      have hm : xs.getD j 0 ∈ xs := by
        have hjl : j < xs.length := by rw [HR.out.1]; exact hjn
        rw [List.getD_eq_getElem?_getD, List.getElem?_eq_getElem hjl]
        exact List.getElem_mem _
      have HC := hide (HP.out wr _ hm gg)
      have HJ := hide hjn
      have hb := H2.out j hjn
      rw [hb] at HC
      generalize xs.getD j 0 = u at *
      have HG := hide gg
      clear hj hm gg hb
      go_wp2_with fail
      refine HC.out.mono ?_
      rintro e w1 ⟨rfl, c1⟩
      have HG1 := hide (HG.out.trans c1)
      clear c1 hx
      go_wp2
      go_roundw
      case rel => exact ⟨j + 1, HJ.out, rfl, HG1.out⟩
      case measure => have := HJ.out; simp [Go.RowKit.intOf]; omega
set_option maxRecDepth 100000 in
/-- slices.ContainsFunc of numbers, by whatever function whose calls only make memory. -/
theorem con_any (eg : ∀ args w, (callFunc fid args).run Tryz.prog w = .ok (.enter fid args) w) (hr : L1.Rd w a n xs) (hn : n < 1000000)
    (hp : ∀ W x, x ∈ xs → Grow w W → Calls Tryz.prog fid (#[.int .i64 x] ++ lb) W fun e w' => e = .returned (.bool (p x)) ∧ Grow W w') :
    Calls Tryz.prog 105 #[.slice a n c, .func (.func fid) #[] lb] w fun e w' => e = .returned (.bool (xs.any p)) ∧ Grow w w' := by
  have hI : ∃ r : Int, Hid (Calls Tryz.prog 124 #[.slice a n c, .func (.func fid) #[] lb] w fun e w' => e = .returned (.int .i64 r) ∧ Grow w w') ∧ decide (r ≥ 0) = xs.any p := by
    rcases first_hit p xs with h | ⟨k, h1, h2, h3⟩
    · refine ⟨-1, hide (idx_none (c := c) eg hr hn hp fun j hj => h j (by rw [hr.1]; exact hj)), ?_⟩
      have : xs.any p = false := by
        rw [List.any_eq_false]
        intro x hx
        obtain ⟨j, hj, rfl⟩ := List.getElem_of_mem hx
        have := h j hj
        rw [List.getD_eq_getElem?_getD, List.getElem?_eq_getElem hj] at this
        simpa using this
      rw [this]
      decide
    · refine ⟨k, hide (idx_hit (c := c) eg hr hn hp (k := k) (by rw [← hr.1]; exact h1) h2 h3), ?_⟩
      have : xs.any p = true := List.any_eq_true.2 ⟨_, getD_mem h1, h2⟩
      rw [this]
      exact decide_eq_true (by omega)
  obtain ⟨r, HI, hb⟩ := hI
  have HB := hide hb
  clear eg hr hn hp hb
  go_enter Tryz.func105, Tryz.ntmps105
  go_wp2_with fail
  refine HI.out.mono ?_
  rintro e w' ⟨rfl, c'⟩
  go_wp2
  go_ret
  exact ⟨ret_bool HB.out, c'⟩
variable {rv : Value}
set_option maxRecDepth 100000 in
set_option maxHeartbeats 1000000 in
/-- The same of a method value. -/
theorem midx_hit (eg : ∀ args w, (callFunc fid args).run Tryz.prog w = .ok (.enter fid args) w) (hr : L1.Rd w a n xs) (hn : n < 1000000)
    (hp : ∀ W x, x ∈ xs → Grow w W → Calls Tryz.prog fid #[rv, .int .i64 x] W fun e w' => e = .returned (.bool (p x)) ∧ Grow W w') {k : Nat} (hk : k < n) (h1 : p (xs.getD k 0) = true) (h2 : ∀ j, j < k → p (xs.getD j 0) = false) :
    Calls Tryz.prog 124 #[.slice a n c, .func (.func fid) #[rv] #[]] w fun e w' => e = .returned (.int .i64 k) ∧ Grow w w' := by
  have HR := hide hr
  have HP := hide hp
  have H1 := hide h1
  have H2 := hide h2
  have HL := hide (And.intro hk hn)
  clear hr hp h1 h2 hk hn
  go_enter Tryz.func124, Tryz.ntmps124
  go_wp2_with fail
  go_loopw [8] (fun v wr => ∃ j : Nat, j ≤ k ∧ v = .int .i64 j ∧ Grow w wr) (fun v _ => n - (Go.RowKit.intOf v).toNat)
  case atStart => exact ⟨0, Nat.zero_le _, rfl, Chg.refl _ _⟩
  case round =>
    obtain ⟨j, hj, rfl, gg⟩ := hrel
    have hjn : j < n := by have := HL.out; omega
    have q1 : decide ((j : Int) < n) = true := decide_eq_true (by omega)
    obtain ⟨x, rfl, hx⟩ := HR.out.at_ hjn
    replace hx := gg.cell hx
    have hw : IntKind.i64.wrap ((j : Int) + 1) = ((j + 1 : Nat) : Int) := (IntWalk.i64_in _ (by have := HL.out; omega)).trans (by omega)
    have hm : xs.getD j 0 ∈ xs := by
      have hjl : j < xs.length := by rw [HR.out.1]; exact hjn
      rw [List.getD_eq_getElem?_getD, List.getElem?_eq_getElem hjl]
      exact List.getElem_mem _
    have HC := hide (HP.out wr _ hm gg)
    have HJ := hide hjn
    rcases Nat.eq_or_lt_of_le hj with hje | hlt
    · subst hje
      have hb := H1.out
      rw [hb] at HC
      generalize xs.getD j 0 = u at *
      have HG := hide gg
      clear hj hm gg hb
      go_wp2_with fail
      refine HC.out.mono ?_
      rintro e w1 ⟨rfl, c1⟩
      go_wp2
      go_ret
      exact ⟨rfl, HG.out.trans c1⟩
    · have hb := H2.out j hlt
      rw [hb] at HC
      generalize xs.getD j 0 = u at *
      have HG := hide gg
      have HLT := hide hlt
      clear hj hm gg hb hlt
      go_wp2_with fail
      refine HC.out.mono ?_
      rintro e w1 ⟨rfl, c1⟩
      have HG1 := hide (HG.out.trans c1)
      clear c1 hx
      go_wp2
      go_roundw
      case rel => exact ⟨j + 1, HLT.out, rfl, HG1.out⟩
      case measure => have := HJ.out; simp [Go.RowKit.intOf]; omega
set_option maxRecDepth 100000 in
set_option maxHeartbeats 1000000 in
/-- None is hit. -/
theorem midx_none (eg : ∀ args w, (callFunc fid args).run Tryz.prog w = .ok (.enter fid args) w) (hr : L1.Rd w a n xs) (hn : n < 1000000)
    (hp : ∀ W x, x ∈ xs → Grow w W → Calls Tryz.prog fid #[rv, .int .i64 x] W fun e w' => e = .returned (.bool (p x)) ∧ Grow W w') (h2 : ∀ j, j < n → p (xs.getD j 0) = false) :
    Calls Tryz.prog 124 #[.slice a n c, .func (.func fid) #[rv] #[]] w fun e w' => e = .returned (.int .i64 (-1)) ∧ Grow w w' := by
  have HR := hide hr
  have HP := hide hp
  have H2 := hide h2
  have HL := hide hn
  clear hr hp h2 hn
  go_enter Tryz.func124, Tryz.ntmps124
  go_wp2_with fail
  go_loopw [8] (fun v wr => ∃ j : Nat, j ≤ n ∧ v = .int .i64 j ∧ Grow w wr) (fun v _ => n - (Go.RowKit.intOf v).toNat)
  case atStart => exact ⟨0, Nat.zero_le _, rfl, Chg.refl _ _⟩
  case round =>
    obtain ⟨j, hj, rfl, gg⟩ := hrel
    rcases Nat.eq_or_lt_of_le hj with hje | hjn
    · subst hje
      have q1 : decide ((j : Int) < j) = false := by simp
      have HG := hide gg
      clear gg hj
      go_wp2
      go_ret
      exact ⟨rfl, HG.out⟩
    · have q1 : decide ((j : Int) < n) = true := decide_eq_true (by omega)
      obtain ⟨x, rfl, hx⟩ := HR.out.at_ hjn
      replace hx := gg.cell hx
      have hw : IntKind.i64.wrap ((j : Int) + 1) = ((j + 1 : Nat) : Int) := (IntWalk.i64_in _ (by have := HL.out; omega)).trans (by omega)
      have hm : xs.getD j 0 ∈ xs := by
        have hjl : j < xs.length := by rw [HR.out.1]; exact hjn
        rw [List.getD_eq_getElem?_getD, List.getElem?_eq_getElem hjl]
        exact List.getElem_mem _
      have HC := hide (HP.out wr _ hm gg)
      have HJ := hide hjn
      have hb := H2.out j hjn
      rw [hb] at HC
      generalize xs.getD j 0 = u at *
      have HG := hide gg
      clear hj hm gg hb
      go_wp2_with fail
      refine HC.out.mono ?_
      rintro e w1 ⟨rfl, c1⟩
      have HG1 := hide (HG.out.trans c1)
      clear c1 hx
      go_wp2
      go_roundw
      case rel => exact ⟨j + 1, HJ.out, rfl, HG1.out⟩
      case measure => have := HJ.out; simp [Go.RowKit.intOf]; omega
set_option maxRecDepth 100000 in
/-- slices.ContainsFunc of numbers, by whatever function whose calls only make memory. -/
theorem mcon_any (eg : ∀ args w, (callFunc fid args).run Tryz.prog w = .ok (.enter fid args) w) (hr : L1.Rd w a n xs) (hn : n < 1000000)
    (hp : ∀ W x, x ∈ xs → Grow w W → Calls Tryz.prog fid #[rv, .int .i64 x] W fun e w' => e = .returned (.bool (p x)) ∧ Grow W w') :
    Calls Tryz.prog 105 #[.slice a n c, .func (.func fid) #[rv] #[]] w fun e w' => e = .returned (.bool (xs.any p)) ∧ Grow w w' := by
  have hI : ∃ r : Int, Hid (Calls Tryz.prog 124 #[.slice a n c, .func (.func fid) #[rv] #[]] w fun e w' => e = .returned (.int .i64 r) ∧ Grow w w') ∧ decide (r ≥ 0) = xs.any p := by
    rcases first_hit p xs with h | ⟨k, h1, h2, h3⟩
    · refine ⟨-1, hide (midx_none (c := c) eg hr hn hp fun j hj => h j (by rw [hr.1]; exact hj)), ?_⟩
      have : xs.any p = false := by
        rw [List.any_eq_false]
        intro x hx
        obtain ⟨j, hj, rfl⟩ := List.getElem_of_mem hx
        have := h j hj
        rw [List.getD_eq_getElem?_getD, List.getElem?_eq_getElem hj] at this
        simpa using this
      rw [this]
      decide
    · refine ⟨k, hide (midx_hit (c := c) eg hr hn hp (k := k) (by rw [← hr.1]; exact h1) h2 h3), ?_⟩
      have : xs.any p = true := List.any_eq_true.2 ⟨_, getD_mem h1, h2⟩
      rw [this]
      exact decide_eq_true (by omega)
  obtain ⟨r, HI, hb⟩ := hI
  have HB := hide hb
  clear eg hr hn hp hb
  go_enter Tryz.func105, Tryz.ntmps105
  go_wp2_with fail
  refine HI.out.mono ?_
  rintro e w' ⟨rfl, c'⟩
  go_wp2
  go_ret
  exact ⟨ret_bool HB.out, c'⟩
end
end Go.Proofs.YtogfjclmohpjkaaGreatDoor.L15
