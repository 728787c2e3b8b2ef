/- What New, Set, Clear and Wipe of package bits do to a map whose places are known. Conditions: the numbers given fit their kinds; a map has at most 4096 places. -/
import Derived.Test.YtaddomgjjemglaaDoorL3Bits
import Derived.Lib.SliceRun
import Derived.Handy
namespace Go.Proofs.YtaddomgjjemglaaDoor.L3
open Go.ChangeShapes Go.WideShapes Go.ChangeAt Go.RowKit
set_option linter.unusedVariables false

/-- The map in block p has n places; the words ws, which lie in block g. -/
def Mp (w : World) (p g n : Nat) (ws : List Nat) : Prop :=
  Blk w p 50 [.int .i64 n, .slice (some ⟨g, 0, none⟩) ws.length ws.length] ∧ Blk w g 51 (u64s ws) ∧ Rep n ws
theorem Mp.mv {w : World} {p g n : Nat} {ws : List Nat} (h : Mp w p g n ws) : Mv w (ptr p) (some ⟨g, 0, none⟩) n ws :=
  ⟨h.2.2, .inr ⟨p, rfl, h.1.cell 0, h.1.cell 1⟩, fun k hk => ⟨g, rfl, by rw [h.2.1.cell]; exact u64s_get ws k hk⟩⟩
theorem Mp.ne {w : World} {p g n : Nat} {ws : List Nat} (h : Mp w p g n ws) : p ≠ g := h.1.ne_ h.2.1 (by decide)
theorem Mp.chg {S : Nat → Prop} {w w' : World} {p g n : Nat} {ws : List Nat} (h : Mp w p g n ws) (k : Chg S w w') (hp : ¬ S p) (hg : ¬ S g) : Mp w' p g n ws := ⟨h.1.chg k hp, h.2.1.chg k hg, h.2.2⟩
theorem still_same {P : Program} {f : FuncId} {args : Array Value} {w : World} {v : Value} (h : Calls P f args w fun e w' => e = .returned v ∧ w = w') : Calls P f args w fun e w' => e = .returned v ∧ w' = w :=
  h.mono fun _ _ ⟨he, hw⟩ => ⟨he, hw.symm⟩

/-- S, but at i it is b. -/
def upd (S : Nat → Bool) (i : Nat) (b : Bool) : Nat → Bool := fun j => if j = i then b else S j
/-- The words with one replaced: what is set. -/
theorem hs_set (ws : List Nat) (q x i : Nat) (hq : q < ws.length) : hs (ws.set q x) i = if i / 64 = q then x.testBit (i % 64) else hs ws i := by
  unfold hs
  by_cases h : i / 64 = q
  · rw [if_pos h, h]; simp [List.getD_eq_getElem?_getD, hq]
  · rw [if_neg h]; simp [List.getD_eq_getElem?_getD, List.getElem?_set_ne (Ne.symm h)]
theorem set_upd (ws : List Nat) (k x : Nat) (b : Bool) (hq : k / 64 < ws.length) (hx : ∀ j, j < 64 → x.testBit j = if j = k % 64 then b else (ws.getD (k / 64) 0).testBit j) : hs (ws.set (k / 64) x) = upd (hs ws) k b := by
  funext i
  rw [hs_set _ _ _ _ hq]
  unfold upd
  by_cases h : i / 64 = k / 64
  · rw [if_pos h, hx _ (by omega)]
    by_cases h2 : i = k
    · subst h2; simp
    · rw [if_neg (by omega), if_neg h2]
      unfold hs
      rw [h]
  · rw [if_neg h, if_neg (by rintro rfl; exact h rfl)]
theorem Rep.set {n : Nat} {ws : List Nat} (h : Rep n ws) {k x : Nat} {b : Bool} (hk : k < n) (hx : x < 18446744073709551616) (hu : hs (ws.set (k / 64) x) = upd (hs ws) k b) : Rep n (ws.set (k / 64) x) := by
  refine ⟨h.most, by rw [List.length_set]; exact h.len, fun j => ?_, fun i hi => ?_⟩
  · by_cases e : j = k / 64
    · subst e
      by_cases hl : k / 64 < ws.length
      · simp [List.getD_eq_getElem?_getD, hl]; exact hx
      · simp [List.getD_eq_getElem?_getD, Nat.not_lt.1 hl]
    · have := h.word j
      simpa [List.getD_eq_getElem?_getD, List.getElem?_set_ne (Ne.symm e)] using this
  · rw [hu] at hi
    unfold upd at hi
    by_cases e : i = k
    · omega
    · rw [if_neg e] at hi; exact h.tail i hi

theorem Mp.stored {w : World} {p g n : Nat} {ws : List Nat} (h : Mp w p g n ws) {q y : Nat} (hr : Rep n (ws.set q y)) : Mp (w.setCell ⟨g, q, none⟩ (.int .u64 (y : Nat))) p g n (ws.set q y) :=
  ⟨by rw [List.length_set]; exact h.1.far h.ne _, by rw [← u64s_set]; exact h.2.1.set_ q _, hr⟩

/-- Cells set one behind the other. -/
def spl (cs : List Value) (o : Nat) : List Value → List Value
  | [] => cs
  | v :: r => spl (cs.set o v) (o + 1) r
theorem spl_get : ∀ (vs : List Value) (cs : List Value) (o i : Nat), o + vs.length ≤ cs.length → (spl cs o vs)[i]? = if o ≤ i ∧ i < o + vs.length then vs[i - o]? else cs[i]?
  | [], cs, o, i, _ => by rw [if_neg (by simp)]; rfl
  | v :: r, cs, o, i, h => by
    simp only [List.length_cons] at h
    rw [spl, spl_get r _ _ i (by simp; omega), List.getElem?_set]
    simp only [List.length_cons]
    by_cases h1 : o = i
    · subst h1
      rw [if_neg (by omega), if_pos rfl, if_pos (by omega), if_pos (by omega)]
      simp
    · by_cases h2 : o ≤ i ∧ i < o + (r.length + 1)
      · rw [if_pos (by omega), if_pos h2, show i - o = (i - (o + 1)) + 1 by omega]; rfl
      · rw [if_neg (by omega), if_neg h2, if_neg h1]
theorem spl_all (cs : List Value) (z : Value) : spl cs 0 (List.replicate cs.length z) = List.replicate cs.length z := by
  apply List.ext_getElem?
  intro i
  rw [spl_get _ _ _ _ (by simp)]
  by_cases h : i < cs.length
  · rw [if_pos (by simp; omega)]; rfl
  · rw [if_neg (by simp; omega), List.getElem?_eq_none (by omega), List.getElem?_eq_none (by simp; omega)]
theorem _root_.Go.Proofs.YtaddomgjjemglaaDoor.Blk.cells {g : Nat} {t : TypeId} : ∀ (vs : List Value) (o : Nat) (w : World) (cs : List Value), Blk w g t cs → Blk (w.setCells g o vs) g t (spl cs o vs)
  | [], _, _, _, h => h
  | v :: r, o, w, cs, h => Blk.cells r (o + 1) _ _ (h.set_ o v)
theorem _root_.Go.Proofs.YtaddomgjjemglaaDoor.Blk.cells_far {g g' : Nat} {t : TypeId} {cs : List Value} (hne : g' ≠ g) : ∀ (vs : List Value) (o : Nat) (w : World), Blk w g' t cs → Blk (w.setCells g o vs) g' t cs
  | [], _, _, h => h
  | v :: r, o, w, h => Blk.cells_far hne r (o + 1) _ (h.far (p := ⟨g, o, none⟩) hne v)
theorem chg_cells {g : Nat} {a : World} : ∀ (vs : List Value) (o : Nat) (b : World), Chg (· = g) a b → Chg (· = g) a (b.setCells g o vs)
  | [], _, _, h => h
  | v :: r, o, b, h => chg_cells r (o + 1) _ (h.set1 o v)
theorem hs_zeros (n : Nat) : hs (List.replicate n 0) = fun _ => false := by
  funext i
  unfold hs
  rw [List.getD_eq_getElem?_getD, List.getElem?_replicate]
  split <;> simp
theorem Rep.zeros {n : Nat} (h : n ≤ 4096) : Rep n (List.replicate ((n + 63) / 64) 0) :=
  ⟨h, by simp, fun k => by rw [List.getD_eq_getElem?_getD, List.getElem?_replicate]; split <;> decide, fun i hi => by rw [hs_zeros] at hi; cases hi⟩
theorem u64s_zeros (n : Nat) : u64s (List.replicate n 0) = List.replicate n (.int .u64 0) := by simp [u64s]

theorem Tryd.infoU64 : (Tryd.prog.info? 51).map (fun i => (i.zero, i.size, i.bytes)) = some (some (.int .u64 0), 1, 8) := by kernel_rfl
theorem zeroU64 : ∀ w, (zeroValue 51).run Tryd.prog w = .ok (.int .u64 0) w := fun w => by kernel_rfl
/-- make([]uint64, x). -/
theorem mk_u64s (x : Nat) (h1 : x ≤ 1099511627776) (W : World) :
    (Instr.makeSlice 48 (.int .i64 (x : Int)) (.int .i64 (x : Int))).run Tryd.prog W = .ok (.slice (some ⟨W.heap.size, 0, none⟩) x x) (W.alloc (.cells (u64s (List.replicate x 0)).toArray 51)) := by
  obtain ⟨i, hi, hz, hs, hb⟩ := info_parts Tryd.infoU64
  rw [run_make (P := Tryd.prog) W 48 51 i _ Tryd.underlying48 hi hz .i64 .i64 (x : Int) (x : Int) (by omega) (Int.le_refl _) (by rw [hb]; omega) (by omega)]
  have e : madeCells (Value.int .u64 0).cells ((x : Int).toNat * i.size) = (u64s (List.replicate x 0)).toArray := by
    apply Array.ext'
    rw [hs, Nat.mul_one]
    show (madeCells #[.int .u64 0] x).toList = _
    rw [toList_madeCells_one, u64s_zeros]
  rw [e]
  rfl

section
variable (w : World)

theorem set_no (pv : Value) (A : Option Addr) (n : Nat) (ws : List Nat) (i : Int) (h : Mv w pv A n ws) (hx : exB n i = false) : Calls Tryd.prog 36 #[pv, .int .i64 i] w fun e w' => e = .returned (.bool false) ∧ w = w' := by
  have H := hide (exists_any pv A n ws w i h)
  rw [hx] at H
  clear h hx
  go_enter Tryd.func36, Tryd.ntmps36
  go_wp2_with fail
  refine H.out.mono ?_
  rintro e w' ⟨rfl, rfl⟩
  go_wp2
  go_ret
  exact ⟨rfl, rfl⟩

theorem set_had (pv : Value) (A : Option Addr) (n : Nat) (ws : List Nat) (k : Nat) (h : Mv w pv A n ws) (hk : k < n) (hh : hs ws k = true) : Calls Tryd.prog 36 #[pv, .int .i64 k] w fun e w' => e = .returned (.bool false) ∧ Grow w w' := by
  have H := hide (exists_any pv A n ws w k h)
  have hx : exB n (k : Int) = true := by simp [exB]; omega
  rw [hx] at H
  have H2 := hide (has_at pv A n ws w k h hk)
  rw [hh] at H2
  clear h hx hh
  go_enter Tryd.func36, Tryd.ntmps36
  go_wp2_with fail
  refine H.out.mono ?_
  rintro e w' ⟨rfl, rfl⟩
  go_wp2_with fail
  refine H2.out.mono ?_
  rintro e w' ⟨rfl, c⟩
  go_wp2
  go_ret
  exact ⟨rfl, c⟩

set_option maxHeartbeats 1000000 in
theorem set_new (p g n : Nat) (ws : List Nat) (k : Nat) (h : Mp w p g n ws) (hk : k < n) (hh : hs ws k = false) :
    Calls Tryd.prog 36 #[ptr p, .int .i64 k] w fun e w' => e = .returned (.bool true) ∧ (∃ ws', Mp w' p g n ws' ∧ hs ws' = upd (hs ws) k true) ∧ Chg (· = g) w w' := by
  have hm := h.2.2.most
  have H := hide (exists_any _ _ n ws w k h.mv)
  have hx : exB n (k : Int) = true := by simp [exB]; omega
  rw [hx] at H
  have H2 := hide (has_at _ _ n ws w k h.mv hk)
  rw [hh] at H2
  obtain ⟨q, hq, hql, hqw, hq0, hq1⟩ := word_of h.2.2 hk
  have hxw := h.2.2.word q
  have H3 := hide (bit_any k (by omega))
  have hpw := pow64 (k % 64) (by omega)
  have hor : ∃ y : Nat, bits .or .u64 ((ws.getD q 0 : Nat) : Int) ((2 ^ (k % 64) : Nat) : Int) = (y : Int) ∧ y < 18446744073709551616 ∧ hs (ws.set q y) = upd (hs ws) k true := by
    refine ⟨_, bits_or_u64_nat _ _ hxw hpw, Nat.or_lt_two_pow (n := 64) hxw hpw, ?_⟩
    subst hq
    refine set_upd _ _ _ _ hql fun j hj => ?_
    rw [Nat.testBit_or, Nat.testBit_two_pow]
    by_cases e : j = k % 64
    · simp [e]
    · rw [if_neg e]; simp [Ne.symm e]
  obtain ⟨y, hy, hyl, hyu⟩ := hor
  have HU := hide hyu
  have HR := hide (h.2.2.set (x := y) (b := true) hk hyl (by rw [hq]; exact hyu))
  rw [hq] at HR
  have HM := hide h
  have hxx : ∃ x, x = ws.getD q 0 := ⟨_, rfl⟩
  obtain ⟨x, hxx⟩ := hxx
  rw [← hxx] at hy
  have HX := hide hxx
  generalize 2 ^ (k % 64) = b at *
  clear h hx hh hyu hxx hpw hxw
  go_enter Tryd.func36, Tryd.ntmps36
  go_wp2_with fail
  refine H.out.mono ?_
  rintro e w' ⟨rfl, rfl⟩
  go_wp2_with fail
  refine H2.out.mono ?_
  rintro e w2 ⟨rfl, c2⟩
  have hm2 := HM.out.chg c2 id id
  have hc : w2.cell? ⟨g, q, none⟩ = some (.int .u64 x) := by rw [HX.out, hm2.2.1.cell]; exact u64s_get ws q hql
  have hf := hm2.2.1.frozen q
  have HA := hide fun W (c : Grow w2 W) => all_any _ _ n ws W (hm2.mv.grow c)
  have HM2 := hide hm2
  clear hm2
  go_wp2_with fail
  refine wp_region_still_tail 10 (by kernel_rfl) (by kernel_rfl) ?_
  simp only [List.take_succ_cons, List.take_zero, List.drop_succ_cons, List.drop_zero]
  repeat (
    refine wpStill_step (fun K hK => ?_)
    go_simp
    first
      | (refine hK _ ?_; clear hK K)
      | (refine ⟨_, still_same (HA.out _ ((Chg.refl _ w2).drew)), hK _ ?_⟩; clear hK K)
      | (refine ⟨_, still_same (H3.out _), hK _ ?_⟩; clear hK K))
  refine wpStill_nil ?_
  change wpList _ _ _ _ _ (World.drew _)
  go_wp2
  go_ret
  exact ⟨rfl, ⟨_, HM2.out.stored HR.out, HU.out⟩, (c2.mono (S := (· = g)) (fun _ _ h => h.elim)).set1 q _ |>.drew⟩

/-- How many places New makes. -/
def clamp (n : Int) : Nat := (min (max n 0) 4096).toNat

theorem new_any (v : Int) : Calls Tryd.prog 27 #[.int .i64 v] w fun e w' => e = .returned (ptr (w.heap.size + 1)) ∧ (∃ ws, Mp w' (w.heap.size + 1) w.heap.size (clamp v) ws ∧ hs ws = fun _ => false) ∧ Grow w w' := by
  obtain ⟨m, hm⟩ : ∃ m : Nat, max v 0 = m := ⟨(max v 0).toNat, by omega⟩
  obtain ⟨n, hn⟩ : ∃ n, clamp v = n := ⟨_, rfl⟩
  have hnle : n ≤ 4096 := by rw [← hn]; unfold clamp; omega
  have hmx : ∀ ts t W, (Builtin.max_ ts t #[.int .i64 v, .int .i64 0]).run Tryd.prog W = .ok (.int .i64 m) W := fun ts t W => by
    rw [run_max_int2]; congr 2; split <;> omega
  have hmn : ∀ ts t W, (Builtin.min_ ts t #[.int .i64 m, .int .i64 4096]).run Tryd.prog W = .ok (.int .i64 n) W := fun ts t W => by
    rw [run_min_int2]; congr 2; unfold clamp at hn; split <;> omega
  rw [hn]
  have hw1 : IntKind.i64.wrap ((n : Int) + 64) = (n : Int) + 64 := wrap_i64_id _ (by omega)
  have hw2 : IntKind.i64.wrap ((n : Int) + 64 - 1) = ((n + 63 : Nat) : Int) := by rw [wrap_i64_id _ (by omega)]; omega
  obtain ⟨l, hl⟩ : ∃ l, (n + 63) / 64 = l := ⟨_, rfl⟩
  have hw3 : IntKind.i64.wrap (((n + 63 : Nat) : Int) / 64) = (l : Int) := by rw [wrap_i64_id _ (by omega)]; omega
  have hmk := mk_u64s l (by omega)
  have HL := hide hl
  have HZ := hide (Rep.zeros hnle)
  clear hm hn hl
  generalize n + 63 = n63 at *
  go_enter Tryd.func27, Tryd.ntmps27
  go_wp2
  go_ret
  have h1 := Blk.new w 51 (u64s (List.replicate l 0))
  have h2 := Blk.new (w.alloc (.cells (u64s (List.replicate l 0)).toArray 51)) 50 [.int .i64 n, .slice (some ⟨w.heap.size, 0, none⟩) l l]
  rw [World.size_alloc] at h2
  refine ⟨rfl, ⟨List.replicate l 0, ⟨?_, h1.alloc _, ?_⟩, hs_zeros _⟩, ((Chg.refl _ _).alloc _).alloc _⟩
  · rw [List.length_replicate]; exact h2
  · rw [← HL.out]; exact HZ.out
end
end Go.Proofs.YtaddomgjjemglaaDoor.L3
