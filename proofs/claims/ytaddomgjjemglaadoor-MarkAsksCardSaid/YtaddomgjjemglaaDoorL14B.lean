/- Lists of lists that came in; the functions that the laws make of them; small laws' helpers. Conditions: as each part says. -/
import Derived.Test.YtaddomgjjemglaaDoorL14C
import Derived.Test.YtaddomgjjemglaaDoorOpen
import Derived.Shelf.Abstract
namespace Go.Proofs.YtaddomgjjemglaaDoor.L14
open Go.ChangeShapes Go.WideShapes Go.ChangeAt Go.RowKit Go.Deep
open Go.Proofs.YtaddomgjjemglaaDoor.L3 (Ms Tab ms_set ms_len ms_has ms_next ms_count ms_new clamp ptr exB setI cnt cnt_le upd nx nx_cases)
set_option linter.unusedVariables false

/-- A list of lists; what they hold lies below B. -/
def IsLs (B : Nat) (w : World) (a : Option Addr) (len : Nat) (L : List (List Int)) : Prop :=
  L.length = len ∧ (0 < len → ∃ x : Addr, a = some x ∧ ∀ i, i < len → ∃ b c, w.cell? (x.add i) = some (.slice b (L.getD i []).length c) ∧ L1.Rd w b (L.getD i []).length (L.getD i []) ∧ (0 < (L.getD i []).length → ∀ y : Addr, b = some y → y.block < B))
section
variable {w W W' : World} {B len cap i j n k c : Nat} {a : Option Addr} {L : List (List Int)} {S : Nat → Prop}
theorem IsLs.grow (h : IsLs B w a len L) (d : Grow w W) : IsLs B W a len L := by
  refine ⟨h.1, fun h0 => ?_⟩
  obtain ⟨x, e, hx⟩ := h.2 h0
  refine ⟨x, e, fun i hi => ?_⟩
  obtain ⟨b, c, h1, h2, h3⟩ := hx i hi
  exact ⟨b, c, d.cell h1, h2.grow d, h3⟩
theorem IsLs.at_ (h : IsLs B w a len L) (hi : i < len) : ∃ (x : Addr) (b : Option Addr) (c : Nat), a = some x ∧ w.cell? (x.add i) = some (.slice b (L.getD i []).length c) ∧ L1.Rd w b (L.getD i []).length (L.getD i []) ∧ (0 < (L.getD i []).length → ∀ y : Addr, b = some y → y.block < B) := by
  obtain ⟨x, e, hx⟩ := h.2 (by omega)
  obtain ⟨b, c, r⟩ := hx i hi
  exact ⟨x, b, c, e, r⟩
end
section
variable {H : Type} {enc : TypeId × Value → H} {w : World} {base : Nat} {held : Bool}
theorem sl_form {fuel : Nat} {t e : TypeId} {c : Value} {P : Program} {x : DataW H × List MemPlace} (ht : P.underlying t = some (.slice e)) (h : DataW.trod enc P w base (fun _ => true) held fuel t [c] = some x) : ∃ a l k, c = .slice a l k := by
  rcases open_slice ht h with ⟨h0, _⟩ | ⟨x, l, c, m, n, D, Pl, hcs, _⟩
  · simp at h0
    exact ⟨_, _, _, h0⟩
  · simp at hcs
    exact ⟨_, _, _, hcs⟩
theorem open_lists {r : Reach} {b0 : Nat} {v : Value} {d : DataW H} {p : List MemPlace} (hv : Value.okWide Tryd.prog w r b0 22 v) (h : DataW.Trod enc Tryd.prog w base (fun _ => true) held 22 v d p) :
    ∃ a len cap L, v = .slice a len cap ∧ IsLs w.heap.size w a len L := by
  obtain ⟨a, len, cap, rfl⟩ := okWide_slice Tryd.underlying22 hv
  obtain ⟨fuel, hf⟩ := h
  have hC : Tryd.prog.cellsOf 23 = 1 := by kernel_rfl
  rcases open_slice Tryd.underlying22 hf with ⟨h0, _⟩ | ⟨x, l, c, m, n, D, Pl, hcs, _, hl, hm, hmm, _, hi⟩
  · simp [Value.cells] at h0
    obtain ⟨rfl, rfl, rfl⟩ := h0
    exact ⟨none, 0, 0, [], rfl, rfl, fun h => absurd h (by omega)⟩
  · simp [Value.cells] at hcs
    obtain ⟨rfl, rfl, rfl⟩ := hcs
    have hm' : m = cap := by simpa using hmm
    subst hm'
    have hq1 : ∀ i, i < len → ∃ xs : List Int, ∃ b c, w.cell? (x.add i) = some (.slice b xs.length c) ∧ L1.Rd w b xs.length xs := fun i him => by
      obtain ⟨cs, h1, h2⟩ := hi i (by omega)
      rw [hC] at h1
      obtain ⟨_, hcl, hat⟩ := World.cells?_some h1
      match cs, hcl with
      | [c0], _ =>
        obtain ⟨b, l, k, rfl⟩ := sl_form Tryd.underlying23 h2
        obtain ⟨zs, hz⟩ := open_row (a := b) (len := l) (cap := k) Tryd.underlying23 Tryd.underlying3 (by kernel_rfl) ⟨n, h2⟩
        have hat0 := hat 0 (by omega)
        rw [add_add, Nat.mul_one, Nat.add_zero] at hat0
        exact ⟨zs, b, k, by rw [hz.1]; exact hat0, by rw [hz.1]; exact ⟨hz.1, hz.2.2.2.1⟩⟩
    obtain ⟨L, hol, hq⟩ := list_of (fun i (xs : List Int) => ∃ b c, w.cell? (x.add i) = some (.slice b xs.length c) ∧ L1.Rd w b xs.length xs) [] len hq1
    refine ⟨some x, len, m, L, rfl, hol, fun h0 => ⟨x, rfl, fun i hi => ?_⟩⟩
    obtain ⟨b, c, h1, h2⟩ := hq i hi
    exact ⟨b, c, h1, h2, fun hn y e => by subst e; exact h2.lt hn⟩
end
/-- What place j leads to. -/
def eL (L : List (List Int)) (j : Nat) : List Int := L.getD j []
def fewB (L : List (List Int)) (k : Nat) : Bool := decide (L.length ≤ 100 ∧ k ≤ 100 ∧ ∀ xs ∈ L, xs.length ≤ 30)
section
variable {w W W' : World} {B len cap i j n k c b : Nat} {a a2 : Option Addr} {L : List (List Int)} {S : Nat → Prop}
theorem eL_len (h : fewB L k = true) (j : Nat) : (eL L j).length ≤ 30 := by
  have h2 := (of_decide_eq_true h).2.2
  unfold eL
  by_cases hj : j < L.length
  · rw [List.getD_eq_getElem?_getD, List.getElem?_eq_getElem hj]
    exact h2 _ (List.getElem_mem hj)
  · rw [List.getD_eq_getElem?_getD, List.getElem?_eq_none (by omega)]
    exact Nat.zero_le _
set_option maxRecDepth 100000 in
theorem few_any (h : IsLs B w a len L) : Calls Tryd.prog 11 #[.slice a len cap, .slice a2 k c] w fun e w' => e = .returned (.bool (fewB L k)) ∧ w = w' := by
  have HL := hide h
  have hlen := h.1
  by_cases h1 : 100 < len
  · have e : fewB L k = false := decide_eq_false fun h => by omega
    have q1 : decide ((len : Int) > 100) = true := decide_eq_true (by omega)
    have E := hide e
    clear h e hlen
    go_enter Tryd.func11, Tryd.ntmps11
    go_wp2
    go_returns
    rw [E.out]
    exact ⟨rfl, rfl⟩
  have q1 : decide ((len : Int) > 100) = false := decide_eq_false (by omega)
  by_cases h2 : 100 < k
  · have e : fewB L k = false := decide_eq_false fun h => by omega
    have q2 : decide ((k : Int) > 100) = true := decide_eq_true (by omega)
    have E := hide e
    clear h e hlen
    go_enter Tryd.func11, Tryd.ntmps11
    go_wp2
    go_returns
    rw [E.out]
    exact ⟨rfl, rfl⟩
  have q2 : decide ((k : Int) > 100) = false := decide_eq_false (by omega)
  have HLE := hide (show L.length = len ∧ len ≤ 100 ∧ k ≤ 100 from ⟨hlen, by omega, by omega⟩)
  clear h hlen h1 h2
  go_enter Tryd.func11, Tryd.ntmps11
  go_wp2_with fail
  go_loopw [16] (fun v wr => ∃ j : Nat, j ≤ len ∧ v = .int .i64 j ∧ (∀ i, i < j → (L.getD i []).length ≤ 30) ∧ w = wr) (fun v _ => len - (Go.RowKit.intOf v).toNat)
  case atStart => exact ⟨0, Nat.zero_le _, rfl, fun i hi => absurd hi (by omega), rfl⟩
  case round =>
    obtain ⟨j, hj, rfl, hall, hw⟩ := hrel
    subst hw
    rcases Nat.eq_or_lt_of_le hj with rfl | hlt
    · have q3 : decide ((j : Int) < j) = false := by simp
      have E := hide (show fewB L k = true from decide_eq_true ⟨by have := HLE.out; omega, by have := HLE.out; omega, fun xs hx => by
        obtain ⟨i, hi, rfl⟩ := List.getElem_of_mem hx
        have := hall i (by rw [← HLE.out.1]; exact hi)
        rwa [List.getD_eq_getElem?_getD, List.getElem?_eq_getElem hi] at this⟩)
      clear hall hj
      go_wp2
      go_returns
      rw [E.out]
      exact ⟨rfl, rfl⟩
    · have q3 : decide ((j : Int) < len) = true := decide_eq_true (by omega)
      have q4 : (j : Int) < len := by omega
      have hwr : IntKind.i64.wrap ((j : Int) + 1) = ((j + 1 : Nat) : Int) := (IntWalk.i64_in _ (by have := HLE.out; omega)).trans (by omega)
      obtain ⟨x, b, cc, rfl, hc, -, -⟩ := HL.out.at_ hlt
      obtain ⟨m, hm⟩ : ∃ m, (L.getD j []).length = m := ⟨_, rfl⟩
      rw [hm] at hc
      by_cases h3 : 30 < m
      · have q5 : decide ((m : Int) > 30) = true := decide_eq_true (by omega)
        have E := hide (show fewB L k = false from decide_eq_false fun h => by
          have hjl : j < L.length := by rw [HLE.out.1]; exact hlt
          have := h.2.2 _ (List.getElem_mem hjl)
          rw [List.getD_eq_getElem?_getD, List.getElem?_eq_getElem hjl] at hm
          have hm' : L[j].length = m := hm
          omega)
        clear hall hj hlt hm h3
        go_wp2
        go_returns
        rw [E.out]
        exact ⟨rfl, rfl⟩
      · have q5 : decide ((m : Int) > 30) = false := decide_eq_false (by omega)
        have HALL := hide (show ∀ i, i < j + 1 → (L.getD i []).length ≤ 30 from fun i hi => by
          rcases Nat.eq_or_lt_of_le (Nat.le_of_lt_succ hi) with rfl | h
          · omega
          · exact hall i h)
        have HLT := hide hlt
        clear hall hj hlt hm h3
        go_wp2
        go_roundw
        case rel => exact ⟨j + 1, HLT.out, rfl, HALL.out, by first | rfl | trivial⟩
        case measure => have := HLT.out; simp [Go.RowKit.intOf]; omega
theorem by_any (v : Value) (w : World) : Calls Tryd.prog 13 #[.slice a n c] w fun e w' => e = .returned (.func (.func 31) #[] #[ptr w.heap.size]) ∧ w' = w.alloc (.cells #[.slice a n c] 22) := by
  go_enter Tryd.func13, Tryd.ntmps13
  go_wp2
  go_returns
  exact ⟨rfl, rfl⟩
set_option maxRecDepth 100000 in
/-- What the function of a list of lists answers. -/
theorem byF_any (hb : W.cell? ⟨b, 0, none⟩ = some (.slice a len cap)) (h : IsLs B W a len L) (j : Nat) :
    Calls Tryd.prog 31 #[.int .i64 j, ptr b] W fun e w' => ∃ a' c', e = .returned (.slice a' (eL L j).length c') ∧ L1.Rd W a' (eL L j).length (eL L j) ∧ (0 < (eL L j).length → ∀ y : Addr, a' = some y → y.block < B) ∧ W = w' := by
  have q1 : decide ((j : Int) < 0) = false := by simp
  by_cases hj : j < len
  · have q2 : decide ((j : Int) ≥ len) = false := decide_eq_false (by omega)
    have q3 : (j : Int) < len := by omega
    have q4 : decide (len ≤ j) = false := decide_eq_false (by omega)
    obtain ⟨x, b2, c2, rfl, hc, h1, h2⟩ := h.at_ hj
    have H1 := hide (show L1.Rd W b2 (eL L j).length (eL L j) from h1)
    have H2 := hide (show 0 < (eL L j).length → ∀ y : Addr, b2 = some y → y.block < B from h2)
    have hc' : W.cell? (x.add j) = some (.slice b2 (eL L j).length c2) := hc
    clear hc h1 h2 h
    generalize (eL L j).length = m at *
    go_enter Tryd.func31, Tryd.ntmps31
    go_wp2
    go_returns
    exact ⟨_, _, rfl, H1.out, H2.out, rfl⟩
  · have q2 : decide ((j : Int) ≥ len) = true := decide_eq_true (by omega)
    have q4 : decide (len ≤ j) = true := decide_eq_true (by omega)
    have e : eL L j = [] := by
      unfold eL
      rw [List.getD_eq_getElem?_getD, List.getElem?_eq_none (by rw [h.1]; omega)]
      rfl
    rw [e]
    have hj2 : len ≤ j := by omega
    clear h e hj
    go_enter Tryd.func31, Tryd.ntmps31
    go_wp2
    go_returns
    exact ⟨none, 0, rfl, L1.Rd.nothing, fun h => absurd h (by simp), rfl⟩
/-- It leads where the list says. -/
theorem ed_by (hb : w.cell? ⟨b, 0, none⟩ = some (.slice a len cap)) (h : IsLs B w a len L) (hB : B ≤ w.heap.size) (hl : ∀ j, (eL L j).length ≤ 30) (n : Nat) :
    Ed w n (eL L) (fun _ W => Grow w W) (fun _ => False) 31 #[ptr b] where
  eg := enters_of Tryd.func31 (by kernel_rfl) rfl
  lt := fun _ e => e.elim
  tb := id
  st := fun _ W W' hi d => hi.step d fun i hi e => by omega
  go := fun A W j _ hi _ => by
    refine (byF_any (hi.cell hb) (h.grow hi) j).mono ?_
    rintro e w' ⟨a', c', rfl, h1, h2, rfl⟩
    exact ⟨a', c', rfl, h1, fun h0 x e => .inl (Nat.lt_of_lt_of_le (h2 h0 x e) hB), hi, Chg.refl _ _⟩
  len := fun j _ => Nat.le_trans (hl j) (by decide)
/-- A list's function, in a block of its own. -/
theorem by_is (w : World) : Calls Tryd.prog 13 #[.slice a n c] w fun e w' => ∃ b, e = .returned (.func (.func 31) #[] #[ptr b]) ∧ w'.cell? ⟨b, 0, none⟩ = some (.slice a n c) ∧ Grow w w' ∧ w.heap.size ≤ b := by
  refine (by_any (.bool true) w).mono ?_
  rintro e w' ⟨rfl, rfl⟩
  exact ⟨_, rfl, (Blk.new w _ [.slice a n c]).cell 0, Grow.box _ _, Nat.le_refl _⟩
/-- What Reach answers with a list's function. -/
theorem reach_by {zs : List Int} {S : Nat → Bool} {r c2 k2 : Nat} {places room : Int} (hb : W.cell? ⟨b, 0, none⟩ = some (.slice a len cap)) (hL : IsLs B w a len L) (hB : B ≤ w.heap.size) (hg : Grow w W) (hf : fewB L k = true) (ht : Tab w) (hz : L1.Rd w a2 k2 zs)
    (hk : k2 ≤ 1000000) (hS : ∀ j, S j = true ↔ Rch n (eL L) zs j) (hn : clamp places = n) (hr : max room 1 = (r : Int)) :
    Calls Tryd.prog 12 #[.int .i64 places, .int .i64 room, .func (.func 31) #[] #[ptr b], .slice a2 k2 c2] W fun e W' => ∃ p g rn : Nat, e = .returned (.tuple #[ptr p, .int .i64 (rn : Int)]) ∧ Ms W' p g n S ∧ (rn = 0 ∨ r < cnt S n) ∧ Grow W W' := by
  refine (reach_any (ed_by hb (hL.grow hg) (Nat.le_trans hB hg.size) (eL_len hf) n) (ht.chg hg id) (hz.grow hg) hk (Chg.refl _ _) hS hn hr).mono ?_
  rintro e W' ⟨p, g, rn, rfl, h1, _, _, h2, _, h3⟩
  exact ⟨p, g, rn, rfl, h1, h2, h3⟩
/-- What Reach answers with a function that only makes memory. -/
theorem reach_fun {E : Nat → List Int} {zs : List Int} {S : Nat → Bool} {r c2 k2 fid : Nat} {lb : Array Value} {places room : Int} (eg : ∀ args W, (callFunc fid args).run Tryd.prog W = .ok (.enter fid args) W)
    (hf : ∀ (W : World) (j : Nat), j < n → Grow w W → Calls Tryd.prog fid (#[.int .i64 j] ++ lb) W fun e W' => ∃ a c, e = .returned (.slice a (E j).length c) ∧ L1.Rd W' a (E j).length (E j) ∧ (0 < (E j).length → ∀ x : Addr, a = some x → x.block < w.heap.size ∨ W.heap.size ≤ x.block) ∧ Grow W W')
    (hl : ∀ j, j < n → (E j).length ≤ 1000000) (ht : Tab w) (hz : L1.Rd w a2 k2 zs) (hk : k2 ≤ 1000000) (hS : ∀ j, S j = true ↔ Rch n E zs j) (hn : clamp places = n) (hr : max room 1 = (r : Int)) :
    Calls Tryd.prog 12 #[.int .i64 places, .int .i64 room, .func (.func fid) #[] lb, .slice a2 k2 c2] w fun e W' => ∃ p g rn : Nat, e = .returned (.tuple #[ptr p, .int .i64 (rn : Int)]) ∧ Ms W' p g n S ∧ (rn = 0 ∨ r < cnt S n) ∧ Grow w W' := by
  have hE : Ed w n E (fun _ W => Grow w W) (fun _ => False) fid lb :=
    { eg := eg, lt := fun _ e => e.elim, tb := id, st := fun _ W W' hi d => hi.step d fun i hi e => by omega, len := hl, go := fun A W j hj hi _ => (hf W j hj hi).mono fun e W' ⟨a, c, he, h1, h2, h3⟩ => ⟨a, c, he, h1, h2, hi.trans h3, h3⟩ }
  refine (reach_any hE ht hz hk (Chg.refl _ _) hS hn hr).mono ?_
  rintro e W' ⟨p, g, rn, rfl, h1, _, _, h2, _, h3⟩
  exact ⟨p, g, rn, rfl, h1, h2, h3⟩
/-- Without a function. -/
theorem reach_none {zs : List Int} {S : Nat → Bool} {r c2 k2 : Nat} {places room : Int} (ht : Tab w) (hz : L1.Rd w a2 k2 zs) (hk : k2 ≤ 1000000) (hS : ∀ j, S j = true ↔ Rch n (fun _ => []) zs j) (hn : clamp places = n) (hr : max room 1 = (r : Int)) :
    Calls Tryd.prog 12 #[.int .i64 places, .int .i64 room, .nilFunc, .slice a2 k2 c2] w fun e W' => ∃ p g rn : Nat, e = .returned (.tuple #[ptr p, .int .i64 (rn : Int)]) ∧ Ms W' p g n S ∧ (rn = 0 ∨ r < cnt S n) ∧ Grow w W' := by
  have hc : ∀ (W : World) (j : Nat), Calls Tryd.prog 26 (#[.int .i64 j] ++ #[]) W fun e W' => e = .returned (.slice none 0 0) ∧ W = W' := fun W j => by
    show Calls Tryd.prog 26 #[.int .i64 j] W _
    go_enter Tryd.func26, Tryd.ntmps26
    go_wp2
    go_returns
    exact ⟨rfl, rfl⟩
  have hE : Ed w n (fun _ => []) (fun _ W => Grow w W) (fun _ => False) 26 #[] :=
    { eg := enters_of Tryd.func26 (by kernel_rfl) rfl, lt := fun _ e => e.elim, tb := id, st := fun _ W W' hi d => hi.step d fun i hi e => by omega, len := fun _ _ => Nat.zero_le _, go := fun A W j hj hi _ => (hc W j).mono fun e W' ⟨he, hw⟩ => by
        subst hw
        exact ⟨none, 0, he, L1.Rd.nothing, fun h => absurd h (by simp), hi, Chg.refl _ _⟩ }
  refine (reach_nil hE ht hz hk (Chg.refl _ _) hS hn hr).mono ?_
  rintro e W' ⟨p, g, rn, rfl, h1, _, _, h2, _, h3⟩
  exact ⟨p, g, rn, rfl, h1, h2, h3⟩
/-- One more at the end of a list that this call makes. -/
theorem app_new {va : Option Addr} {q vc : Nat} {xs : List Int} (g : Grow w W) (h : OL W w.heap.size (.slice va q vc) xs) (hq : xs.length = q) (hl : q ≤ 1000000) (x : Int) :
    ∃ a' c' W', (Builtin.append_ #[23, 23] 23 #[.slice va q vc, .slice (some ⟨W.heap.size, 0, none⟩) 1 1]).run Tryd.prog (W.alloc (.cells #[.int .i64 x] 3)) = .ok (.slice a' (q + 1) c') W' ∧ OL W' w.heap.size (.slice a' (q + 1) c') (xs ++ [x]) ∧ Grow w W' ∧
      Chg (fun i => (Value.slice va q vc).ownBlock = some i) W W' := by
  have gB := Grow.box W (.cells #[.int .i64 x] 3)
  obtain ⟨v', W', hr, ho, hg, hv⟩ := app_int (c := 1) (h.grow gB) (Nat.le_trans g.size gB.size) (rd_one W x) (by omega)
  obtain ⟨a', c', rfl⟩ := own_len ho
  have e : (xs ++ [x]).length = q + 1 := by rw [List.length_append, hq]; rfl
  rw [e] at hr ho
  exact ⟨a', c', W', hr, ho, Chg.grownOwn (g.trans gB) (h.grow gB) (Nat.le_refl _) hg, (gB.mono fun _ _ e => e.elim).step ((Chg.refl (fun i => (Value.slice va q vc).ownBlock = some i) _).grown hg fun k _ e => e) fun _ _ e => e⟩
theorem rd_row {zs : List Int} (h : IsRow .i64 w a len cap zs) : L1.Rd w a len zs := ⟨h.1, h.2.2.2.1⟩
theorem in64_row {zs : List Int} (h : IsRow .i64 w a len cap zs) {x : Int} (hx : x ∈ zs) : -9223372036854775808 ≤ x ∧ x ≤ 9223372036854775807 := bounds_i64 (h.2.2.2.2 x hx)
end
end Go.Proofs.YtaddomgjjemglaaDoor.L14
