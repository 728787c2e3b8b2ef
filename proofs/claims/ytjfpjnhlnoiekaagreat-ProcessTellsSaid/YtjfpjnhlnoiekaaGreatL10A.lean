/- Strengths: what is reached, as names; lists of numbers; slices.IndexFunc, DeleteFunc, Grow, Clone, Concat; where it begins within a level. Conditions: as each part says. -/
import Derived.Test.YtjfpjnhlnoiekaaGreatL9A
import Derived.Test.YtjfpjnhlnoiekaaGreatL9C
import Derived.Test.YtjfpjnhlnoiekaaGreatL9B
import Derived.Lib.SliceRun
import Derived.Shelf.Spec.SlicesGrow
/- Strengths: what is reached within a level, as names; what more roots, and a greater level, do. Conditions: none; nothing here speaks of the program. -/
namespace Go.Proofs.YtjfpjnhlnoiekaaGreat.L10
open Go.Proofs.YtjfpjnhlnoiekaaGreat.L9 (Nd nd Srt In64 hldX aimX nd_some nd_none nd_mem hld kd)
open Go.Proofs.YtjfpjnhlnoiekaaGreat.L5 (Cl clAt isRf)
set_option linter.unusedVariables false

/-- Does a node of a kind lead on within a level? -/
def ldB (k lev : Int) : Bool := (decide (k = 3) && decide (2 ≤ lev)) || (decide (k = 4) && decide (3 ≤ lev)) || (decide (k = 5) && decide (5 ≤ lev))
/-- What a node leads to within a level. -/
def outs (cs : List Cl) (L : List Nd) (lev i : Int) : List Int := hldX cs L i ++ (if ldB (aimX cs L i).2 lev then [(aimX cs L i).1] else [])
/-- What is reached from some numbers. -/
inductive Rc (cs : List Cl) (L : List Nd) (lev : Int) (ss : List Int) : Int → Prop
  | st {i : Int} : i ∈ ss → nd L i ≠ none → Rc cs L lev ss i
  | go {i j : Int} : Rc cs L lev ss i → j ∈ outs cs L lev i → nd L j ≠ none → Rc cs L lev ss j
/-- The nodes that are final. -/
def fins (L : List Nd) : List Int := (L.filter Nd.fin).map Nd.id
/-- Where it begins, within a level: of the plain answer, and of the program. -/
def srcC (L : List Nd) (lev : Int) (zs : List Int) : List Int := if 4 ≤ lev then zs ++ fins L else zs
def srcW (L : List Nd) (lev : Int) (zs : List Int) : List Int := if lev < 1 then [] else srcC L lev zs
/-- The nodes of a kind, as names. -/
def clL (L : List Nd) (p : Int → Bool) : List Int := (L.filter fun x => p x.id).map Nd.id
/-- The strength. -/
def ofX (f : Int → Int → Bool) (i : Int) : Int := if f 1 i then 1 else if f 2 i then 2 else if f 3 i then 3 else if f 4 i then 4 else if f 5 i then 5 else 0
/-- p says who is reached. -/
def IsRc (cs : List Cl) (L : List Nd) (lev : Int) (ss : List Int) (p : Int → Bool) : Prop := ∀ i, p i = true ↔ Rc cs L lev ss i
def IsOf (cs : List Cl) (L : List Nd) (zs : List Int) (f : Int → Int → Bool) : Prop := ∀ lev, IsRc cs L lev (srcC L lev zs) (f lev)
section
variable {cs : List Cl} {L : List Nd} {lev lev' i j : Int} {ss ss' zs zs' : List Int} {p q : Int → Bool} {f g : Int → Int → Bool}
theorem ex_rc (cs : List Cl) (L : List Nd) (lev : Int) (ss : List Int) : ∃ p, IsRc cs L lev ss p :=
  ⟨fun i => @decide (Rc cs L lev ss i) (Classical.propDecidable _), fun i => @decide_eq_true_iff _ (Classical.propDecidable _)⟩
theorem ex_of (cs : List Cl) (L : List Nd) (zs : List Int) : ∃ f, IsOf cs L zs f :=
  ⟨fun lev i => @decide (Rc cs L lev (srcC L lev zs) i) (Classical.propDecidable _), fun lev i => @decide_eq_true_iff _ (Classical.propDecidable _)⟩
theorem IsRc.eq (h : IsRc cs L lev ss p) (k : IsRc cs L lev ss q) : p = q := by
  funext i
  rw [Bool.eq_iff_iff, h i, k i]
theorem Rc.is_ (h : Rc cs L lev ss i) : nd L i ≠ none := by cases h <;> assumption
/-- A set that has the beginning, is closed, and has nothing but what is reached, is it. -/
theorem IsRc.mk (h1 : ∀ i, p i = true → Rc cs L lev ss i) (h2 : ∀ i ∈ ss, nd L i ≠ none → p i = true) (h3 : ∀ i j, p i = true → j ∈ outs cs L lev i → nd L j ≠ none → p j = true) : IsRc cs L lev ss p := by
  intro i
  refine ⟨h1 i, fun h => ?_⟩
  induction h with
  | st h k => exact h2 _ h k
  | go _ h k ih => exact h3 _ _ ih h k
theorem Rc.mono (h : Rc cs L lev ss i) (hs : ∀ i ∈ ss, nd L i ≠ none → Rc cs L lev' ss' i) (ho : ∀ i j, j ∈ outs cs L lev i → j ∈ outs cs L lev' i) : Rc cs L lev' ss' i := by
  induction h with
  | st h k => exact hs _ h k
  | go _ h k ih => exact .go ih (ho _ _ h) k
theorem ldB_mono {k : Int} (h : lev ≤ lev') (hk : ldB k lev = true) : ldB k lev' = true := by
  unfold ldB at *
  simp only [Bool.or_eq_true, Bool.and_eq_true, decide_eq_true_eq] at *
  omega
theorem outs_mono (h : lev ≤ lev') : ∀ i j, j ∈ outs cs L lev i → j ∈ outs cs L lev' i := by
  intro i j hj
  unfold outs at *
  rw [List.mem_append] at *
  rcases hj with hj | hj
  · exact .inl hj
  · right
    split at hj
    · rename_i hk
      rw [if_pos (ldB_mono h hk)]
      exact hj
    · cases hj
theorem srcC_mono (h : lev ≤ lev') (hz : ∀ i ∈ zs, i ∈ zs') : ∀ i ∈ srcC L lev zs, i ∈ srcC L lev' zs' := by
  intro i hi
  unfold srcC at *
  split at hi
  · rw [if_pos (by omega)]
    rcases List.mem_append.1 hi with h1 | h1
    · exact List.mem_append_left _ (hz i h1)
    · exact List.mem_append_right _ h1
  · split
    · exact List.mem_append_left _ (hz i hi)
    · exact hz i hi
theorem srcW_pos (h : 1 ≤ lev) : srcW L lev zs = srcC L lev zs := by unfold srcW; rw [if_neg (by omega)]
theorem srcW_neg (h : lev < 1) : srcW L lev zs = [] := by unfold srcW; rw [if_pos h]
theorem rc_nil : ¬ Rc cs L lev [] i := by
  intro h
  induction h with
  | st h _ => cases h
  | go _ _ _ ih => exact ih
theorem Rc.more (h : Rc cs L lev (srcC L lev zs) i) (hl : lev ≤ lev') (hz : ∀ i ∈ zs, i ∈ zs') : Rc cs L lev' (srcC L lev' zs') i :=
  h.mono (fun j hj hn => .st (srcC_mono hl hz j hj) hn) (outs_mono hl)
theorem IsOf.up (h : IsOf cs L zs f) (hl : lev ≤ lev') (hf : f lev i = true) : f lev' i = true := (h lev' i).2 (((h lev i).1 hf).more hl fun _ h => h)
/-- The strength: what it says. -/
theorem ofX_le (h : IsOf cs L zs f) (k : IsOf cs L zs' g) (hi : ∀ lev, f lev i = true → g lev j = true) : ofX f i ≠ 0 → ofX g j ≠ 0 ∧ ofX g j ≤ ofX f i := by
  have h1 := hi 1
  have h2 := hi 2
  have h3 := hi 3
  have h4 := hi 4
  have h5 := hi 5
  unfold ofX
  intro hn
  cases e1 : f 1 i <;> cases e2 : f 2 i <;> cases e3 : f 3 i <;> cases e4 : f 4 i <;> cases e5 : f 5 i <;> simp_all <;> (repeat' split) <;> simp_all
theorem ofX_is (h : IsOf cs L zs f) {l : Int} (h1 : 1 ≤ l) (h5 : l ≤ 5) : (ofX f i ≠ 0 ∧ ofX f i ≤ l) ↔ f l i = true := by
  have m1 := h.up (i := i) (lev := 1) (lev' := 2) (by decide)
  have m2 := h.up (i := i) (lev := 2) (lev' := 3) (by decide)
  have m3 := h.up (i := i) (lev := 3) (lev' := 4) (by decide)
  have m4 := h.up (i := i) (lev := 4) (lev' := 5) (by decide)
  unfold ofX
  have hl : l = 1 ∨ l = 2 ∨ l = 3 ∨ l = 4 ∨ l = 5 := by omega
  cases e1 : f 1 i <;> cases e2 : f 2 i <;> cases e3 : f 3 i <;> cases e4 : f 4 i <;> cases e5 : f 5 i <;> rcases hl with rfl | rfl | rfl | rfl | rfl <;> simp_all
theorem ofX_bd (f : Int → Int → Bool) (i : Int) : 0 ≤ ofX f i ∧ ofX f i ≤ 5 := by
  unfold ofX
  (repeat' split) <;> decide
theorem ofX_no (h : IsOf cs L zs f) : ofX f i = 0 ↔ f 5 i = false := by
  have m1 := h.up (i := i) (lev := 1) (lev' := 5) (by decide)
  have m2 := h.up (i := i) (lev := 2) (lev' := 5) (by decide)
  have m3 := h.up (i := i) (lev := 3) (lev' := 5) (by decide)
  have m4 := h.up (i := i) (lev := 4) (lev' := 5) (by decide)
  unfold ofX
  cases e5 : f 5 i <;> simp_all <;> (repeat' split) <;> simp_all
/-- Names in the list. -/
theorem clL_mem (hp : IsRc cs L lev ss p) : i ∈ clL L p ↔ p i = true := by
  unfold clL
  rw [List.mem_map]
  constructor
  · rintro ⟨x, hx, rfl⟩
    exact (List.mem_filter.1 hx).2
  · intro h
    have hn := ((hp i).1 h).is_
    obtain ⟨x, hx⟩ := Option.ne_none_iff_exists'.1 hn
    obtain ⟨h1, rfl⟩ := nd_some hx
    exact ⟨x, List.mem_filter.2 ⟨h1, h⟩, rfl⟩
theorem fins_mem (hs : Srt L) : i ∈ fins L ↔ ∃ x, nd L i = some x ∧ x.fin = true := by
  unfold fins
  rw [List.mem_map]
  constructor
  · rintro ⟨x, hx, rfl⟩
    obtain ⟨h1, h2⟩ := List.mem_filter.1 hx
    exact ⟨x, nd_mem hs h1, h2⟩
  · rintro ⟨x, hx, hf⟩
    obtain ⟨h1, rfl⟩ := nd_some hx
    exact ⟨x, List.mem_filter.2 ⟨h1, hf⟩, rfl⟩
end
end Go.Proofs.YtjfpjnhlnoiekaaGreat.L10
/- Lists of numbers that a call made: appending to them, cutting them, writing into them. Conditions: at most 100000000 numbers. -/
namespace Go.Proofs.YtjfpjnhlnoiekaaGreat.L10
open Go.ChangeShapes Go.WideShapes Go.ChangeAt Go.RowKit
open Go.Proofs.YtjfpjnhlnoiekaaGreat.L9 (own_rd own_cast)
set_option linter.unusedVariables false

/-- A list of numbers that was made behind b. -/
abbrev OL (W : World) (b : Nat) (v : Value) (xs : List Int) : Prop := W.ownsRow b 3 1 v xs.length (ints xs)
section
variable {w W W' : World} {b g n c k : Nat} {v : Value} {xs ys : List Int} {a : Option Addr} {S : Nat → Prop}
theorem OL.form (h : OL W b v xs) : ∃ a c, v = .slice a xs.length c ∧ L1.Rd W a xs.length xs := by
  obtain ⟨a, c, rfl⟩ := own_len h
  exact ⟨a, c, rfl, own_rd h⟩
theorem OL.pos (h : OL W b v xs) (hn : 0 < xs.length) : ∃ g c, v = .slice (some ⟨g, 0, none⟩) xs.length c ∧ b ≤ g ∧ g < W.heap.size := by
  obtain ⟨g, c, e, h1, h2, _⟩ := own_form h hn
  exact ⟨g, c, e, h1, h2⟩
theorem OL.cell (h : OL W b (.slice (some ⟨g, 0, none⟩) xs.length c) xs) (hk : k < xs.length) : W.cell? ⟨g, k, none⟩ = some (.int .i64 (xs.getD k 0)) := by
  rw [h.cellAt k (by omega)]
  exact ints_get _ _ hk
theorem OL.cut (h : OL W b (.slice (some ⟨g, 0, none⟩) n c) xs) (hk : k ≤ xs.length) : OL W b (.slice (some ⟨g, 0, none⟩) k c) (xs.take k) := by
  have e : (xs.take k).length = k := by simp; omega
  unfold OL at *
  rw [e]
  rcases h.2 with ⟨h', _⟩ | ⟨g', cap', cur, h', hb, hg, hnc, hcm, hcs, htake⟩
  · cases h'
  · injection h' with h1 h2 h3
    subst h3
    refine ⟨by rw [ints_length, e]; omega, .inr ⟨g', c, cur, by rw [h1], hb, hg, by omega, hcm, hcs, ?_⟩⟩
    have : cur.toList.take (k * 1) = (cur.toList.take (xs.length * 1)).take k := by rw [List.take_take]; congr 1; omega
    rw [this, htake]
    simp [ints, List.map_take]
theorem OL.set (h : OL W b (.slice (some ⟨g, 0, none⟩) xs.length c) xs) (k : Nat) (u : Int) : OL (W.setCell ⟨g, k, none⟩ (.int .i64 u)) b (.slice (some ⟨g, 0, none⟩) xs.length c) (xs.set k u) := by
  have h1 := (h.stored k (.int .i64 u)).1
  unfold OL
  rw [List.length_set, ← ints_set]
  exact h1
theorem ol_nil (W : World) (b : Nat) : OL W b (.slice none 0 0) [] := World.ownsRow_nil _ _ _ _
theorem OL.chg (h : OL W b v xs) (d : Chg S W W') (hs : ∀ k, v.ownBlock = some k → ¬ S k) : OL W' b v xs := own_chg h d hs
theorem OL.grow (h : OL W b v xs) (d : Grow W W') : OL W' b v xs := own_grow h d
theorem OL.lower {b' : Nat} (h : OL W b v xs) (hb : b' ≤ b) : OL W b' v xs := by
  refine ⟨h.1, ?_⟩
  rcases h.2 with h | ⟨g, cap, cur, h1, h2, h3⟩
  · exact .inl h
  · exact .inr ⟨g, cap, cur, h1, Nat.le_trans hb h2, h3⟩
theorem OL.lit (W : World) (xs : List Int) (hl : xs.length ≤ 1000000000) : OL (W.alloc (.cells (ints xs).toArray 3)) W.heap.size (.slice (some ⟨W.heap.size, 0, none⟩) xs.length xs.length) xs :=
  World.ownsRow_lit (e := 3) (size := 1) (base := W.heap.size) W (ints xs).toArray xs.length (Nat.le_refl _) (by unfold maxLen; omega) (by simp [ints_length])
set_option maxRecDepth 100000 in
/-- append, by what it comes to. -/
theorem app_int (h : OL W b v xs) (hb : b ≤ W.heap.size) (hs : L1.Rd W a n ys) (hn : xs.length + n ≤ 100000000) :
    ∃ v' W', (Builtin.append_ #[27, 27] 27 #[v, .slice a n c]).run Tryz.prog W = .ok v' W' ∧ OL W' b v' (xs ++ ys) ∧ W.grownBy W' v.ownBlock ∧ (v'.ownBlock = v.ownBlock ∨ v'.ownBlock = some W.heap.size) := by
  obtain ⟨i0, hi0, hz0, hz1, hz2⟩ := info_parts L9.Tryz.infoI
  have hl := hs.1
  cases a with
  | none =>
    have h0 : n = 0 := by
      rcases Nat.eq_zero_or_pos n with h | h
      · exact h
      · obtain ⟨x, e, _⟩ := hs.2 h
        exact absurd e (by simp)
    subst h0
    obtain rfl : ys = [] := List.eq_nil_of_length_eq_zero hl
    refine ⟨v, W, ?_, by simpa using h, ⟨rfl, rfl, rfl, Nat.le_refl _, fun _ _ _ => rfl⟩, .inl rfl⟩
    have ht := Tryz.underlying27
    rcases h.2 with ⟨rfl, _⟩ | ⟨g, cap, cur, rfl, _, _, hnc, _⟩
    · simp [Builtin.append_, run_underlying ht, sizeOf, typeInfo, hi0, Builtin.lenOf, Builtin.firstCells]
    · simp [Builtin.append_, run_underlying ht, sizeOf, typeInfo, hi0, Builtin.lenOf, Builtin.firstCells, hnc, storeCells]
  | some ad =>
    have hc : ∀ j u, (ints ys)[j]? = some u → W.cell? (ad.add j) = some u := fun j u hu => by
      have hj : j < n := by have := (List.getElem?_eq_some_iff.1 hu).1; rw [ints_length] at this; omega
      obtain ⟨x, e, hx⟩ := hs.at_ hj
      injection e with e
      subst e
      rw [hx, ← ints_get ys j (by omega), hu]
    obtain ⟨v', W', hr, h4, h5, _, h6⟩ := run_append_own_at (P := Tryz.prog) W b 27 27 3 i0 (.int .i64 0) 1 8 Tryz.underlying27 hi0 hz0 hz1 hz2 rfl (by decide)
      v xs.length (ints xs) h ad n c (ints ys) (by rw [ints_length, hl]; omega) hc (ints_one ys) (by unfold maxLen; omega) (by omega) hb
    refine ⟨v', W', hr, ?_, h5, h6⟩
    unfold OL
    rw [List.length_append, hl, show ints (xs ++ ys) = ints xs ++ ints ys by simp [ints]]
    exact h4
/-- append onto a list that this call made. -/
theorem app_more {c0 : Nat} (cc : Grow w W) (h : OL W w.heap.size v xs) (hs : L1.Rd W a n ys) (hn : xs.length + n ≤ 100000000) :
    ∃ v' W', (Builtin.append_ #[27, 27] 27 #[v, .slice a n c0]).run Tryz.prog W = .ok v' W' ∧ OL W' w.heap.size v' (xs ++ ys) ∧ Grow w W' ∧ W.grownBy W' v.ownBlock := by
  obtain ⟨v', W', hr, ho, hg, _⟩ := app_int (c := c0) h cc.size hs hn
  exact ⟨v', W', hr, ho, Chg.grownOwn cc h (Nat.le_refl _) hg, hg⟩
/-- A list is in no block of another kind. -/
theorem OL.ne {t : TypeId} {cs : List Value} (h : OL W b v xs) (hb : Blk W g t cs) (hne : 3 ≠ t) : v.ownBlock ≠ some g := L9.own_ne h hb hne
theorem OL.ne_map {x : Array _} {y : Nat} (h : OL W b v xs) (hb : W.heap[g]? = some (.map x y)) : v.ownBlock ≠ some g := by
  rcases h.2 with ⟨rfl, _⟩ | ⟨g', cap, cur, rfl, _, hg, _⟩
  · intro e; cases e
  · intro e'
    have e2 : g' = g := by injection e'
    subst e2
    rw [hg] at hb
    cases hb
/-- Cells behind the list are cleared. -/
theorem OL.clear (h : OL W b (.slice (some ⟨g, 0, none⟩) xs.length c) xs) : ∀ (u : List Value) (o : Nat), xs.length ≤ o → OL (W.setCells g o u) b (.slice (some ⟨g, 0, none⟩) xs.length c) xs ∧ Chg (· = g) W (W.setCells g o u) := by
  intro u
  induction u generalizing W with
  | nil => exact fun o _ => ⟨h, Chg.refl _ _⟩
  | cons x u ih =>
    intro o ho
    have h1 := (h.stored o x).1
    rw [List.set_eq_of_length_le (by rw [ints_length]; exact ho)] at h1
    obtain ⟨h2, h3⟩ := ih h1 (o + 1) (by omega)
    exact ⟨h2, ((Chg.refl _ W).set1 o x).trans h3⟩
end
end Go.Proofs.YtjfpjnhlnoiekaaGreat.L10
/- slices.IndexFunc and slices.DeleteFunc of numbers, by whatever function it is passed whose calls only make memory; the nodes that are final. Conditions: fewer than 1000000 numbers. -/
namespace Go.Proofs.YtjfpjnhlnoiekaaGreat.L10
open Go.ChangeShapes Go.WideShapes Go.ChangeAt Go.RowKit
open Go.Proofs.YtjfpjnhlnoiekaaGreat.L9 (Nd nd GS In64 Srt nd_some nd_none nd_mem ids_gs node_no node_tn)
open Go.Proofs.YtjfpjnhlnoiekaaGreat.L5 (Cl clAt isRf)
set_option linter.unusedVariables false
section
variable {w : World} {fid : Nat} {lb : Array Value} {p : Int → Bool} {a : Option Addr} {n c g b : Nat} {xs : List Int}
set_option maxRecDepth 100000 in
set_option maxHeartbeats 1000000 in
/-- The first that is hit. -/
theorem idx_hit (eg : ∀ args w, (callFunc fid args).run Tryz.prog w = .ok (.enter fid args) w) (hr : L1.Rd w a n xs) (hn : n < 1000000)
    (hp : ∀ W x, x ∈ xs → Grow w W → Calls Tryz.prog fid (#[.int .i64 x] ++ lb) W fun e w' => e = .returned (.bool (p x)) ∧ Grow W w') {k : Nat} (hk : k < n) (h1 : p (xs.getD k 0) = true) (h2 : ∀ j, j < k → p (xs.getD j 0) = false) :
    Calls Tryz.prog 108 #[.slice a n c, .func (.func fid) #[] lb] w fun e w' => e = .returned (.int .i64 k) ∧ Grow w w' := by
  have HR := hide hr
  have HP := hide hp
  have H1 := hide h1
  have H2 := hide h2
  have HL := hide (And.intro hk hn)
  clear hr hp h1 h2 hk hn
  go_enter Tryz.func108, Tryz.ntmps108
  go_wp2_with fail
  go_loopw [8] (fun v wr => ∃ j : Nat, j ≤ k ∧ v = .int .i64 j ∧ Grow w wr) (fun v _ => n - (Go.RowKit.intOf v).toNat)
  case atStart => exact ⟨0, Nat.zero_le _, rfl, Chg.refl _ _⟩
  case round =>
    obtain ⟨j, hj, rfl, gg⟩ := hrel
    have hjn : j < n := by have := HL.out; omega
    have q1 : decide ((j : Int) < n) = true := decide_eq_true (by omega)
    obtain ⟨x, rfl, hx⟩ := HR.out.at_ hjn
    replace hx := gg.cell hx
    have hw : IntKind.i64.wrap ((j : Int) + 1) = ((j + 1 : Nat) : Int) := (IntWalk.i64_in _ (by have := HL.out; omega)).trans (by omega)
    have hm : xs.getD j 0 ∈ xs := by
      have hjl : j < xs.length := by rw [HR.out.1]; exact hjn
      rw [List.getD_eq_getElem?_getD, List.getElem?_eq_getElem hjl]
      exact List.getElem_mem _
    have HC := hide (HP.out wr _ hm gg)
    have HJ := hide hjn
    rcases Nat.eq_or_lt_of_le hj with hje | hlt
    · subst hje
      have hb := H1.out
      rw [hb] at HC
      generalize xs.getD j 0 = u at *
      have HG := hide gg
      clear hj hm gg hb
      go_wp2_with fail
      refine HC.out.mono ?_
      rintro e w1 ⟨rfl, c1⟩
      go_wp2
      go_ret
      exact ⟨rfl, HG.out.trans c1⟩
    · have hb := H2.out j hlt
      rw [hb] at HC
      generalize xs.getD j 0 = u at *
      have HG := hide gg
      have HLT := hide hlt
      clear hj hm gg hb hlt
      go_wp2_with fail
      refine HC.out.mono ?_
      rintro e w1 ⟨rfl, c1⟩
      have HG1 := hide (HG.out.trans c1)
      clear c1 hx
      go_wp2
      go_roundw
      case rel => exact ⟨j + 1, HLT.out, rfl, HG1.out⟩
      case measure => have := HJ.out; simp [Go.RowKit.intOf]; omega
set_option maxRecDepth 100000 in
set_option maxHeartbeats 1000000 in
/-- None is hit. -/
theorem idx_none (eg : ∀ args w, (callFunc fid args).run Tryz.prog w = .ok (.enter fid args) w) (hr : L1.Rd w a n xs) (hn : n < 1000000)
    (hp : ∀ W x, x ∈ xs → Grow w W → Calls Tryz.prog fid (#[.int .i64 x] ++ lb) W fun e w' => e = .returned (.bool (p x)) ∧ Grow W w') (h2 : ∀ j, j < n → p (xs.getD j 0) = false) :
    Calls Tryz.prog 108 #[.slice a n c, .func (.func fid) #[] lb] w fun e w' => e = .returned (.int .i64 (-1)) ∧ Grow w w' := by
  have HR := hide hr
  have HP := hide hp
  have H2 := hide h2
  have HL := hide hn
  clear hr hp h2 hn
  go_enter Tryz.func108, Tryz.ntmps108
  go_wp2_with fail
  go_loopw [8] (fun v wr => ∃ j : Nat, j ≤ n ∧ v = .int .i64 j ∧ Grow w wr) (fun v _ => n - (Go.RowKit.intOf v).toNat)
  case atStart => exact ⟨0, Nat.zero_le _, rfl, Chg.refl _ _⟩
  case round =>
    obtain ⟨j, hj, rfl, gg⟩ := hrel
    rcases Nat.eq_or_lt_of_le hj with hje | hjn
    · subst hje
      have q1 : decide ((j : Int) < j) = false := by simp
      have HG := hide gg
      clear gg hj
      go_wp2
      go_ret
      exact ⟨rfl, HG.out⟩
    · have q1 : decide ((j : Int) < n) = true := decide_eq_true (by omega)
      obtain ⟨x, rfl, hx⟩ := HR.out.at_ hjn
      replace hx := gg.cell hx
      have hw : IntKind.i64.wrap ((j : Int) + 1) = ((j + 1 : Nat) : Int) := (IntWalk.i64_in _ (by have := HL.out; omega)).trans (by omega)
      have hm : xs.getD j 0 ∈ xs := by
        have hjl : j < xs.length := by rw [HR.out.1]; exact hjn
        rw [List.getD_eq_getElem?_getD, List.getElem?_eq_getElem hjl]
        exact List.getElem_mem _
      have HC := hide (HP.out wr _ hm gg)
      have HJ := hide hjn
      have hb := H2.out j hjn
      rw [hb] at HC
      generalize xs.getD j 0 = u at *
      have HG := hide gg
      clear hj hm gg hb
      go_wp2_with fail
      refine HC.out.mono ?_
      rintro e w1 ⟨rfl, c1⟩
      have HG1 := hide (HG.out.trans c1)
      clear c1 hx
      go_wp2
      go_roundw
      case rel => exact ⟨j + 1, HJ.out, rfl, HG1.out⟩
      case measure => have := HJ.out; simp [Go.RowKit.intOf]; omega
end
end Go.Proofs.YtjfpjnhlnoiekaaGreat.L10
/- slices.DeleteFunc of numbers, by whatever function it is passed whose calls only make memory; the nodes that are final. Conditions: fewer than 1000000 numbers, nodes. -/
namespace Go.Proofs.YtjfpjnhlnoiekaaGreat.L10
open Go.ChangeShapes Go.WideShapes Go.ChangeAt Go.RowKit
open Go.Proofs.YtjfpjnhlnoiekaaGreat.L9 (Nd nd GS In64 Srt nd_some nd_none nd_mem ids_gs node_no node_yes own_rd ptr)
open Go.Proofs.YtjfpjnhlnoiekaaGreat.L5 (Cl clAt isRf)
set_option linter.unusedVariables false
section
variable {w : World} {fid : Nat} {lb : Array Value} {p q : Int → Bool} {n c g b : Nat} {xs ys : List Int}
theorem flt_step {j : Nat} (hj : j < xs.length) : (xs.take (j + 1)).filter q = (xs.take j).filter q ++ (if q (xs.getD j 0) then [xs.getD j 0] else []) := by
  rw [List.take_add_one, List.getElem?_eq_getElem hj, List.getD_eq_getElem?_getD, List.getElem?_eq_getElem hj, List.filter_append]
  simp [List.filter_cons]
theorem flt_all {k : Nat} (hk : k ≤ xs.length) (h2 : ∀ j, j < k → q (xs.getD j 0) = true) : (xs.take k).filter q = xs.take k := by
  refine List.filter_eq_self.2 fun x hx => ?_
  obtain ⟨j, hj, rfl⟩ := List.getElem_of_mem hx
  have hj' : j < k := by simp at hj; omega
  have := h2 j hj'
  rw [List.getD_eq_getElem?_getD, List.getElem?_eq_getElem (by omega)] at this
  simpa using this
theorem first_hit (p : Int → Bool) (xs : List Int) : (∀ j, j < xs.length → p (xs.getD j 0) = false) ∨ ∃ k, k < xs.length ∧ p (xs.getD k 0) = true ∧ ∀ j, j < k → p (xs.getD j 0) = false := by
  induction xs with
  | nil => exact .inl fun j hj => absurd hj (by simp)
  | cons x l ih =>
    cases h : p x with
    | true => exact .inr ⟨0, by simp, by simpa using h, fun j hj => absurd hj (by omega)⟩
    | false =>
      rcases ih with ih | ⟨k, h1, h2, h3⟩
      · refine .inl fun j hj => ?_
        cases j with
        | zero => simpa using h
        | succ j => simpa using ih j (by simpa using hj)
      · refine .inr ⟨k + 1, by simpa using h1, by simpa using h2, fun j hj => ?_⟩
        cases j with
        | zero => simpa using h
        | succ j => simpa using h3 j (by omega)
theorem getD_mem {j : Nat} (hj : j < xs.length) : xs.getD j 0 ∈ xs := by
  rw [List.getD_eq_getElem?_getD, List.getElem?_eq_getElem hj]
  exact List.getElem_mem _
theorem set_take {i : Nat} (hi : i < ys.length) (u : Int) : (ys.set i u).take (i + 1) = ys.take i ++ [u] := by
  rw [List.take_add_one, List.take_set_of_le (Nat.le_refl _)]
  simp [hi]
theorem getD_set_ne {i m : Nat} (h : m ≠ i) (u : Int) : (ys.set i u).getD m 0 = ys.getD m 0 := by
  rw [List.getD_eq_getElem?_getD, List.getD_eq_getElem?_getD, List.getElem?_set_ne (Ne.symm h)]
/-- What stands between two rounds. -/
structure Dl (w wr : World) (b g n c : Nat) (xs : List Int) (q : Int → Bool) (i j : Nat) (ys : List Int) : Prop where
  ol : OL wr b (.slice (some ⟨g, 0, none⟩) ys.length c) ys
  len : ys.length = n
  ij : i < j
  jn : j ≤ n
  low : ys.take i = (xs.take j).filter q
  high : ∀ m, j ≤ m → ys.getD m 0 = xs.getD m 0
  chg : Chg (· = g) w wr
theorem Dl.skip {wr w' : World} {i j : Nat} (h : Dl w wr b g n c xs q i j ys) (hn : xs.length = n) (hj : j < n) (hq : q (xs.getD j 0) = false) (cg : Grow wr w') : Dl w w' b g n c xs q i (j + 1) ys :=
  ⟨h.ol.grow cg, h.len, by have := h.ij; omega, hj, by rw [flt_step (by omega), hq, h.low]; simp, fun m hm => h.high m (by omega), h.chg.step cg fun _ _ h => h.elim⟩
theorem Dl.keep {wr w' : World} {i j : Nat} (h : Dl w wr b g n c xs q i j ys) (hn : xs.length = n) (hj : j < n) (hq : q (xs.getD j 0) = true) (cg : Grow wr w') :
    Dl w (w'.setCell ⟨g, i, none⟩ (.int .i64 (xs.getD j 0))) b g n c xs q (i + 1) (j + 1) (ys.set i (xs.getD j 0)) := by
  have hij := h.ij
  have hl := h.len
  have ho := h.ol.grow cg
  refine ⟨?_, by simpa using h.len, by omega, hj, ?_, fun m hm => ?_, (h.chg.step cg fun _ _ h => h.elim).set1 i _⟩
  · rw [List.length_set]
    exact ho.set i _
  · rw [flt_step (by omega), hq, set_take (by omega), h.low]
    simp
  · rw [getD_set_ne (by omega)]
    exact h.high m (by omega)
set_option maxRecDepth 100000 in
set_option maxHeartbeats 1000000 in
theorem del_none {a : Option Addr} (eg : ∀ args w, (callFunc fid args).run Tryz.prog w = .ok (.enter fid args) w) (h : OL w b (.slice a xs.length c) xs) (hn : xs.length < 1000000)
    (hp : ∀ W x, x ∈ xs → Grow w W → Calls Tryz.prog fid (#[.int .i64 x] ++ lb) W fun e w' => e = .returned (.bool (p x)) ∧ Grow W w') (hno : ∀ j, j < xs.length → p (xs.getD j 0) = false) :
    Calls Tryz.prog 106 #[.slice a xs.length c, .func (.func fid) #[] lb] w fun e w' => e = .returned (.slice a (xs.filter fun x => !p x).length c) ∧ OL w' b (.slice a (xs.filter fun x => !p x).length c) (xs.filter fun x => !p x) ∧ Grow w w' := by
  have HI := hide (idx_none (c := c) eg (own_rd h) hn hp hno)
  have e1 : (xs.filter fun x => !p x) = xs := List.filter_eq_self.2 fun x hx => by
    obtain ⟨j, hj, rfl⟩ := List.getElem_of_mem hx
    have := hno j hj
    rw [List.getD_eq_getElem?_getD, List.getElem?_eq_getElem hj] at this
    simpa using this
  rw [e1]
  have HO := hide h
  clear h hp hno e1
  generalize xs.length = m at *
  go_enter Tryz.func106, Tryz.ntmps106
  go_wp2_with fail
  refine HI.out.mono ?_
  rintro e w1 ⟨rfl, c1⟩
  go_wp2
  go_ret
  exact ⟨rfl, own_grow HO.out c1, c1⟩
set_option maxRecDepth 100000 in
set_option maxHeartbeats 1000000 in
theorem del_by (eg : ∀ args w, (callFunc fid args).run Tryz.prog w = .ok (.enter fid args) w) (h : OL w b (.slice (some ⟨g, 0, none⟩) xs.length c) xs) (hn : xs.length < 1000000)
    (hp : ∀ W x, x ∈ xs → Chg (· = g) w W → Calls Tryz.prog fid (#[.int .i64 x] ++ lb) W fun e w' => e = .returned (.bool (p x)) ∧ Grow W w') :
    Calls Tryz.prog 106 #[.slice (some ⟨g, 0, none⟩) xs.length c, .func (.func fid) #[] lb] w fun e w' => e = .returned (.slice (some ⟨g, 0, none⟩) (xs.filter fun x => !p x).length c) ∧ OL w' b (.slice (some ⟨g, 0, none⟩) (xs.filter fun x => !p x).length c) (xs.filter fun x => !p x) ∧ Chg (· = g) w w' := by
  obtain ⟨N, hN⟩ : ∃ N, xs.length = N := ⟨_, rfl⟩
  have hrd := own_rd h
  have hpg : ∀ W x, x ∈ xs → Grow w W → Calls Tryz.prog fid (#[.int .i64 x] ++ lb) W fun e w' => e = .returned (.bool (p x)) ∧ Grow W w' := fun W x hx k => hp W x hx (k.mono fun _ _ h => h.elim)
  rcases first_hit p xs with hno | ⟨k, hk, h1, h2⟩
  · exact (del_none eg h hn hpg hno).mono fun e w' ⟨h1, h2, h3⟩ => ⟨h1, h2, h3.mono fun _ _ h => h.elim⟩
  · have HI := hide (idx_hit (c := c) eg hrd hn hpg hk h1 h2)
    have HST := hide (fun (w1 : World) (c1 : Grow w w1) => (⟨h.grow c1, hN, by omega, by omega, by
      rw [flt_step (q := fun x => !p x) hk, flt_all (q := fun x => !p x) (Nat.le_of_lt hk) (fun j hj => by rw [h2 j hj]; rfl), h1]
      simp, fun _ _ => rfl, c1.mono fun _ _ h => h.elim⟩ : Dl w w1 b g N c xs (fun x => !p x) k (k + 1) xs))
    have HP := hide hp
    have q0 : ((k : Int) == -1) = false := by simp
    have hw0 : IntKind.i64.wrap ((k : Int) + 1) = ((k + 1 : Nat) : Int) := (IntWalk.i64_in _ (by omega)).trans (by omega)
    have HL := hide (And.intro hN (And.intro (show k < N by omega) (show N < 1000000 by omega)))
    clear h hp hpg h1 h2 hrd hk hn
    rw [hN] at HI ⊢
    clear hN
    go_enter Tryz.func106, Tryz.ntmps106
    go_wp2_with fail
    refine HI.out.mono ?_
    rintro e w1 ⟨rfl, c1⟩
    have HS1 := hide (HST.out w1 c1)
    clear c1 HST HI
    go_wp2_with fail
    go_loopw [5, 6] (fun v u wr => ∃ (i j : Nat) (ys : List Int), v = .int .i64 i ∧ u = .int .i64 j ∧ Dl w wr b g N c xs (fun x => !p x) i j ys) (fun _ u _ => N - (Go.RowKit.intOf u).toNat)
    case atStart => exact ⟨k, k + 1, xs, rfl, rfl, HS1.out⟩
    case round =>
      obtain ⟨i, j, ys, rfl, rfl, hd⟩ := hrel
      have HD := hide hd
      have hij := hd.ij
      have hyl := hd.len
      rcases Nat.eq_or_lt_of_le hd.jn with hje | hjn
      · subst hje
        have q1 : decide ((j : Int) < j) = false := by simp
        have hcap : j ≤ c := by have := hd.ol.2; rcases this with ⟨h, _⟩ | ⟨_, _, _, h, _, _, hle, _⟩; cases h; injection h with _ _ h; omega
        have q2 : ¬ c = i := by omega
        have q3 : i ≤ c := by omega
        have q4 : i ≤ j := by omega
        have hcl : ∀ ty, (Builtin.clear_ #[27] ty #[.slice (some ⟨g, i, none⟩) (j - i) (c - i)]).run Tryz.prog wr = .ok (.tuple #[]) (wr.setCells g i (List.replicate (j - i) (.int .i64 0))) := fun ty =>
          Lib.run_clear_slice wr _ _ ty _ Tryz.underlying27 Tryz.zeroValue3 rfl rfl g i _ _ (by omega) (fun t ht => by rw [hd.ol.cell (by omega)]; rfl) (fun t ht => hd.ol.frozenAt _)
        clear hd hij hcap hyl
        go_wp2_with fail
        go_ret
        have hf : (xs.filter fun x => !p x) = ys.take i := by
          rw [HD.out.low, ← HL.out.1, List.take_length]
        have hi : (ys.take i).length = i := by have := HD.out.len; simp; omega
        have ho := HD.out.ol.cut (k := i) (by have := HD.out.len; omega)
        rw [hf, hi]
        have ho' : OL wr b (.slice (some ⟨g, 0, none⟩) (ys.take i).length c) (ys.take i) := by rw [hi]; exact ho
        have h2 := ho'.clear (List.replicate (j - i) (.int .i64 0)) i (by omega)
        rw [hi] at h2
        exact ⟨rfl, h2.1, HD.out.chg.trans h2.2⟩
      · have q1 : decide ((j : Int) < N) = true := decide_eq_true (by omega)
        have hjn' : j < xs.length := by rw [HL.out.1]; exact hjn
        have hcj : wr.cell? ⟨g, j, none⟩ = some (.int .i64 (xs.getD j 0)) := by rw [hd.ol.cell (by omega), hd.high j (Nat.le_refl _)]
        obtain ⟨ci, hci⟩ : ∃ y, wr.cell? ⟨g, i, none⟩ = some (.int .i64 y) := ⟨_, hd.ol.cell (by omega)⟩
        have hfi := hd.ol.frozenAt i
        have q2 : i < N := by omega
        have HC := hide (HP.out wr _ (getD_mem hjn') hd.chg)
        have hw : IntKind.i64.wrap ((j : Int) + 1) = ((j + 1 : Nat) : Int) := (IntWalk.i64_in _ (by have := HL.out; omega)).trans (by omega)
        have hwi : IntKind.i64.wrap ((i : Int) + 1) = ((i + 1 : Nat) : Int) := (IntWalk.i64_in _ (by have := HL.out; omega)).trans (by omega)
        have HJ := hide hjn
        have hfz : ∀ w1, Grow wr w1 → w1.frozen? ⟨g, i, none⟩ = false ∧ w1.cell? ⟨g, i, none⟩ = some (.int .i64 ci) := fun w1 c1 => ⟨(hd.ol.grow c1).frozenAt i, c1.cell hci⟩
        have HF := hide hfz
        cases hb : p (xs.getD j 0) with
        | true =>
          have HN := hide (fun (w1 : World) (c1 : Grow wr w1) => HD.out.skip HL.out.1 hjn (by rw [hb]; rfl) c1)
          rw [hb] at HC
          generalize xs.getD j 0 = u at *
          clear hd hij hyl hb hjn hjn' hfz hfi hci
          go_wp2_with fail
          refine HC.out.mono ?_
          rintro e w2 ⟨rfl, c2⟩
          have HN1 := hide (HN.out _ c2)
          clear c2 hcj
          go_wp2
          go_roundw
          case rel => exact ⟨i, j + 1, ys, rfl, rfl, HN1.out⟩
          case measure => have := HJ.out; simp [Go.RowKit.intOf]; omega
        | false =>
          have HN := hide (fun (w1 : World) (c1 : Grow wr w1) => HD.out.keep HL.out.1 hjn (by rw [hb]; rfl) c1)
          rw [hb] at HC
          obtain ⟨ys', hys⟩ : ∃ l, ys.set i (xs.getD j 0) = l := ⟨_, rfl⟩
          rw [hys] at HN
          generalize xs.getD j 0 = u at *
          clear hd hij hyl hb hjn hjn' hfz hfi hci hys
          go_wp2_with fail
          refine HC.out.mono ?_
          rintro e w2 ⟨rfl, c2⟩
          obtain ⟨f1, f2⟩ := HF.out _ c2
          have HN1 := hide (HN.out _ c2)
          clear c2 hcj
          go_wp2
          go_roundw
          case rel => exact ⟨i + 1, j + 1, ys', rfl, rfl, HN1.out⟩
          case measure => have := HJ.out; simp [Go.RowKit.intOf]; omega
end
section
variable {w W : World} {z p : Nat} {S : Nat → Prop} {cs : List Cl} {L : List Nd} {x : Int} {B : Nat}
/-- Is a node with a name there that is final? -/
def fnB (L : List Nd) (x : Int) : Bool := match nd L x with
  | none => false
  | some y => y.fin
theorem fnB_nd {y : Nd} (hs : Srt L) (hy : y ∈ L) : fnB L y.id = y.fin := by unfold fnB; rw [nd_mem hs hy]
theorem fins_is (hs : Srt L) : ((L.map Nd.id).filter fun x => !!fnB L x) = fins L := by
  unfold fins
  rw [List.filter_map]
  congr 1
  refine List.filter_congr fun y hy => ?_
  show (!!fnB L y.id) = y.fin
  rw [fnB_nd hs hy, Bool.not_not]
set_option maxRecDepth 100000 in
theorem fin1_any (h : GS W z S p cs L) (hb : W.cell? ⟨B, 0, none⟩ = some (ptr p)) (hx : In64 x) :
    Calls Tryz.prog 107 #[.int .i64 x, ptr B] W fun e w' => e = .returned (.bool (!fnB L x)) ∧ Grow W w' := by
  cases hn : nd L x with
  | none =>
    have HX := hide (show fnB L x = false by unfold fnB; rw [hn])
    have HC := hide (node_no h hx hn)
    clear h hn hx
    go_enter Tryz.func107, Tryz.ntmps107
    go_wp2_with fail
    refine HC.out.mono ?_
    rintro e w1 ⟨rfl, c1⟩
    go_wp2
    go_ret
    rw [HX.out]
    exact ⟨rfl, c1.alloc _⟩
  | some y =>
    have HX := hide (show fnB L x = y.fin by unfold fnB; rw [hn])
    have HC := hide (node_yes h hx hn)
    clear h hn hx
    obtain ⟨f, hf⟩ : ∃ f, y.fin = f := ⟨_, rfl⟩
    go_enter Tryz.func107, Tryz.ntmps107
    go_wp2_with fail
    refine HC.out.mono ?_
    rintro e w1 ⟨ar, cr, ad, cd, rfl, -, c1⟩
    go_wp2
    go_ret
    rw [HX.out, hf]
    exact ⟨rfl, c1.alloc _⟩
theorem _root_.Go.Proofs.YtjfpjnhlnoiekaaGreat.L9.GS.zle (h : GS w z S p cs L) : z ≤ w.heap.size := by
  obtain ⟨m, tb, f, ow, h⟩ := h
  have := h.s _ h.sp
  omega
set_option maxRecDepth 100000 in
set_option maxHeartbeats 1000000 in
theorem finals_any (h : GS w z S p cs L) (hl : L.length < 1000000) :
    Calls Tryz.prog 103 #[ptr p] w fun e w' => ∃ a c, e = .returned (.slice a (fins L).length c) ∧ OL w' w.heap.size (.slice a (fins L).length c) (fins L) ∧ Grow w w' := by
  have hmf : ∀ (fn : Fn) (first cap : Array Value) (w : World), (Instr.makeFunc fn first cap).run Tryz.prog w = .ok (.func fn first cap) w := fun _ _ _ _ => rfl
  have hbx := Blk.new w 29 [ptr p]
  have gB := Grow.box w (.cells [ptr p].toArray 29)
  have hB : w.heap.size < (w.alloc (.cells [ptr p].toArray 29)).heap.size := by simp
  have HG := hide (h.grow gB)
  have HS := hide h.srt
  have HZ := hide h.zle
  have HOK := hide (fun x (hx : x ∈ L) => (h.ok hx).id2)
  have HLM := hide (show (L.map Nd.id).length = L.length by simp)
  have HL := hide hl
  clear h hl
  go_enter Tryz.func103, Tryz.ntmps103
  go_wp2_with fail
  generalize w.alloc (.cells #[ptr p] 29) = w1 at *
  obtain ⟨B, hBe⟩ : ∃ B, w.heap.size = B := ⟨_, rfl⟩
  rw [hBe] at hbx hB HZ ⊢
  refine (ids_gs HG.out HL.out).mono ?_
  rintro e w2 ⟨a, cap, rfl, hown, c2⟩
  rw [← HLM.out] at hown
  have hb2 := hbx.chg c2 id
  have hfl := fins_is HS.out
  have hn : (L.map Nd.id).length < 1000000 := by rw [HLM.out]; exact HL.out
  have hin : ∀ x ∈ L.map Nd.id, In64 x := fun x hx => by obtain ⟨y, hy, rfl⟩ := List.mem_map.1 hx; exact HOK.out y hy
  have hdel : Calls Tryz.prog 106 #[.slice a (L.map Nd.id).length cap, .func (.func 107) #[] #[ptr B]] w2 fun e w' => ∃ a' c', e = .returned (.slice a' (fins L).length c') ∧ OL w' w1.heap.size (.slice a' (fins L).length c') (fins L) ∧ Chg (fun k => w1.heap.size ≤ k) w2 w' := by
    have eg := enters_of Tryz.func107 (by kernel_rfl) rfl
    have hpc : ∀ (C : Nat → Prop) W x, (∀ k, C k → w1.heap.size ≤ k) → x ∈ L.map Nd.id → Chg C w2 W → Calls Tryz.prog 107 (#[.int .i64 x] ++ #[ptr B]) W fun e w' => e = .returned (.bool (!fnB L x)) ∧ Grow W w' := fun C W x hC hx k =>
      fin1_any ((HG.out.grow c2).chg k (fun i hi => by have := hC i hi; have := HG.out.zle; omega) fun i hi hc => by have := hC i hc; have := (HG.out.s hi).2; omega) (k.cell (hb2.cell 0) fun hc => by have := hC _ hc; dsimp only at this; omega) (hin x hx)
    rw [← hfl]
    rcases Nat.eq_zero_or_pos (L.map Nd.id).length with h0 | h0
    · exact (del_none eg hown hn (fun W x hx k => hpc (fun _ => False) W x (fun _ h => h.elim) hx k) (fun j hj => by omega)).mono fun e w' ⟨h1, h2, h3⟩ => ⟨_, _, h1, h2, h3.mono fun _ _ h => h.elim⟩
    · obtain ⟨g, c', e, hg1, hg2, _⟩ := own_form hown h0
      injection e with e1 _ e3
      subst e1 e3
      exact (del_by eg hown hn (fun W x hx k => hpc (· = g) W x (fun k hk => by omega) hx k)).mono fun e w' ⟨h1, h2, h3⟩ => ⟨_, _, h1, h2, h3.mono fun k _ hk => by omega⟩
  have HD := hide hdel
  have HC := hide (gB.trans c2)
  have hs1 : B ≤ w1.heap.size := by omega
  have HBE := hide hBe
  clear hdel hown hfl hn hin hb2 c2 gB hBe
  rw [HLM.out] at HD
  obtain ⟨N, hN⟩ : ∃ N, (fins L).length = N := ⟨_, rfl⟩
  rw [hN] at HD
  have HNN := hide hN
  clear hN
  go_wp2_with fail
  refine HD.out.mono ?_
  rintro e w3 ⟨a', c', rfl, ho3, c3⟩
  have HO := hide ho3
  have HC3 := hide c3
  clear ho3 c3
  go_wp2
  go_ret
  have hbe := HBE.out
  have hNN := HNN.out
  subst hNN
  exact ⟨_, _, rfl, OL.lower (b := w1.heap.size) HO.out (by omega), HC.out.step HC3.out fun i hi h => by omega⟩
end
end Go.Proofs.YtjfpjnhlnoiekaaGreat.L10
/- slices.Grow of the nil slice of numbers, by the library's contract: which function and which type of the program stands for which of theirs. Conditions: at most 100000000 numbers. -/
namespace Go.Proofs
open Go.Shelf
def Tryz.growA_ren : Go.Shelf.Ren := ⟨fun | 4 => 57 | n => n, fun | 0 => 0 | 3 => 3 | 4 => 4 | 9 => 9 | 20 => 20 | 22 => 27 | 25 => 3 | n => n, fun | n => n⟩
theorem Tryz.growA : Go.Proofs.Lays8.n4 Tryz.prog Tryz.growA_ren := {
  mixed := by kernel_rfl
  f4 := ⟨Tryz.f57.name, by decide, Tryz.func57.trans (congrArg some (by kernel_rfl))⟩
  t0 := Tryz.underlying0
  a0 := Tryz.isAgg0
  z0 := Tryz.sizeOf0
  v0 := Tryz.zeroValue0
  t3 := Tryz.underlying3
  a3 := Tryz.isAgg3
  z3 := Tryz.sizeOf3
  v3 := Tryz.zeroValue3
  t4 := Tryz.underlying4
  a4 := Tryz.isAgg4
  z4 := Tryz.sizeOf4
  v4 := Tryz.zeroValue4
  t9 := Tryz.underlying9
  a9 := Tryz.isAgg9
  z9 := Tryz.sizeOf9
  v9 := Tryz.zeroValue9
  t20 := Tryz.underlying20
  a20 := Tryz.isAgg20
  z20 := Tryz.sizeOf20
  v20 := Tryz.zeroValue20
  t22 := Tryz.underlying27
  a22 := Tryz.isAgg27
  z22 := Tryz.sizeOf27
  v22 := Tryz.zeroValue27 }
end Go.Proofs
namespace Go.Proofs.YtjfpjnhlnoiekaaGreat.L10
open Go.ChangeShapes Go.WideShapes Go.ChangeAt Go.RowKit
set_option linter.unusedVariables false
set_option maxRecDepth 100000 in
theorem grow_nil (n : Nat) (w : World) (hn : n ≤ 100000000) :
    Calls Tryz.prog 57 #[.slice none 0 0, .int .i64 n] w fun e w' => ∃ v, e = .returned v ∧ OL w' w.heap.size v [] ∧ Grow w w' := by
  rcases Nat.eq_zero_or_pos n with rfl | hp
  · exact (Any8.slices_Grow_room (L := Tryz.growA) none 0 0 0 w (Nat.le_refl _) (by omega) (by omega) (by omega)).mono fun e w' ⟨h1, h2⟩ => ⟨_, h1, ol_nil _ _, by rw [h2]; exact Chg.refl _ _⟩
  · obtain ⟨i0, hi0, hz0, hz1, hz2⟩ := info_parts L9.Tryz.infoI
    have h := Any8.slices_Grow_grow (L := Tryz.growA) i0 (.int .i64 0) hi0 hz0 (by rw [hz1]; decide) none 0 0 n [] w (Nat.le_refl _) (by omega) (by rw [hz2]; omega) (by omega) (by simp) (fun _ => rfl) (fun a h => by cases h)
    refine h.mono ?_
    rintro e w' ⟨rfl, rfl⟩
    have hge := grownCap_ge w (0 + n) 0 (Tryz.growA_ren.t 25)
    have hle := grownCap_le_maxLen w (0 + n) 0 (Tryz.growA_ren.t 25) (by unfold maxLen; omega)
    generalize grownCap w (0 + n) 0 (Tryz.growA_ren.t 25) = C at *
    refine ⟨_, rfl, ⟨rfl, .inr ⟨w.heap.size, C, _, rfl, Nat.le_refl _, heap_alloc_new w.drew _, Nat.zero_le _, hle, ?_, by simp [ints]⟩⟩, (Chg.refl _ w).drew.alloc _⟩
    simp [Builtin.zeroCells, Value.cells]
    omega
end Go.Proofs.YtjfpjnhlnoiekaaGreat.L10
/- slices.Clone and slices.Concat of numbers; where it begins within a level; which kinds lead on. Conditions: at most 1000000 roots, fewer than 1000000 nodes. -/
namespace Go.Proofs.YtjfpjnhlnoiekaaGreat.L10
open Go.ChangeShapes Go.WideShapes Go.ChangeAt Go.RowKit
open Go.Proofs.YtjfpjnhlnoiekaaGreat.L9 (Nd nd GS In64 Srt nd_some nd_none nd_mem own_rd ptr wpList_app)
open Go.Proofs.YtjfpjnhlnoiekaaGreat.L5 (Cl clAt isRf)
set_option linter.unusedVariables false
section
variable {w : World} {a a2 : Option Addr} {n n2 c c2 g : Nat} {xs ys : List Int}
set_option maxRecDepth 100000 in
set_option maxHeartbeats 1000000 in
theorem clone_any (h : L1.Rd w a n xs) (hn : n ≤ 10000000) :
    Calls Tryz.prog 37 #[.slice a n c] w fun e w' => ∃ v, e = .returned v ∧ OL w' w.heap.size v xs ∧ Grow w w' := by
  have q : ∀ (w : World) (a : Option Addr) (n c n' c' : Nat), (binOp .eql 27 (.slice a n c) (.slice none n' c')).run Tryz.prog w = .ok (.bool a.isNone) w := fun w a n c n' c' => Lib.run_eql_slice_nil w _ _ a n c n' c' Tryz.underlying27
  cases a with
  | none =>
    have h0 : n = 0 := by
      rcases Nat.eq_zero_or_pos n with h0 | h0
      · exact h0
      · obtain ⟨x, e, _⟩ := h.2 h0
        exact absurd e (by simp)
    subst h0
    have hxs : xs = [] := List.eq_nil_of_length_eq_zero h.1
    subst hxs
    clear h
    go_enter Tryz.func37, Tryz.ntmps37
    go_wp2
    go_ret
    exact ⟨_, rfl, ol_nil _ _, Chg.refl _ _⟩
  | some x =>
    obtain ⟨v', W', hr, ho, cg, -⟩ := app_more (c0 := c) (Grow.box w (.cells (ints []).toArray 3)) (OL.lit w [] (by simp)) (L9.L1.Rd.chg h (Grow.box w (.cells (ints []).toArray 3)) fun _ _ => id) (by simp; omega)
    have KA := hide hr
    have HO := hide ho
    have HC := hide cg
    clear h hr ho cg
    go_enter Tryz.func37, Tryz.ntmps37
    go_wp2_with (at_builtin; refine wpList_app rfl _ _ 27 rfl (.slice (some ⟨w.heap.size, 0, none⟩) 0 0) (.slice (some x) n c) v' _ W' rfl rfl KA.out ?_)
    go_ret
    exact ⟨_, rfl, HO.out, HC.out⟩
set_option maxRecDepth 100000 in
set_option maxHeartbeats 1000000 in
theorem concat2 (hb : Blk w g 27 [.slice a n c, .slice a2 n2 c2]) (h1 : L1.Rd w a n xs) (h2 : L1.Rd w a2 n2 ys) (hn : n + n2 ≤ 10000000) :
    Calls Tryz.prog 31 #[.slice (some ⟨g, 0, none⟩) 2 2] w fun e w' => ∃ v, e = .returned v ∧ OL w' w.heap.size v (xs ++ ys) ∧ Grow w w' := by
  have k0 : w.cell? ⟨g, 0, none⟩ = some (.slice a n c) := hb.cell 0
  have k1 : w.cell? ⟨g, 1, none⟩ = some (.slice a2 n2 c2) := hb.cell 1
  have HB := hide (And.intro k0 k1)
  have H1 := hide h1
  have H2 := hide h2
  have HN := hide hn
  have hs1 : IntKind.i64.wrap ((n : Int)) = n := IntWalk.i64_in _ (by omega)
  have hs2 : IntKind.i64.wrap ((n : Int) + n2) = ((n + n2 : Nat) : Int) := (IntWalk.i64_in _ (by omega)).trans (by omega)
  have q1 : decide ((n : Int) < 0) = false := by simp
  have q2 : decide (((n + n2 : Nat) : Int) < 0) = false := by simp; omega
  have HG := hide (fun W => grow_nil (n + n2) W (by omega))
  have HLX := hide h1.1
  have HLY := hide h2.1
  clear hb h1 h2 hn k0 k1
  go_enter Tryz.func31, Tryz.ntmps31
  go_wp2_with fail
  go_loopw [3, 11] (fun s v wr => ∃ k : Nat, k ≤ 2 ∧ v = .int .i64 k ∧ s = .int .i64 ((if k = 0 then 0 else if k = 1 then n else n + n2 : Nat) : Int) ∧ w = wr) (fun _ v _ => 2 - (Go.RowKit.intOf v).toNat)
  case atStart => exact ⟨0, by omega, rfl, rfl, rfl⟩
  case round =>
    obtain ⟨k, hk, rfl, rfl, rfl⟩ := hrel
    obtain ⟨k0, k1⟩ := HB.out
    obtain rfl | rfl | rfl : k = 0 ∨ k = 1 ∨ k = 2 := by omega
    · clear k1 hk
      go_wp2
      go_roundw
      case rel => exact ⟨1, by omega, rfl, by simp, by first | rfl | trivial⟩
      case measure => simp [Go.RowKit.intOf]
    · clear k0 hk
      go_wp2
      go_roundw
      case rel => exact ⟨2, by omega, rfl, by simp, by first | rfl | trivial⟩
      case measure => simp [Go.RowKit.intOf]
    · clear k0 k1 hk
      go_wp2_with fail
      refine (HG.out _).mono ?_
      rintro e w1 ⟨v0, rfl, ho, c1⟩
      have HO := hide ho
      have HC := hide c1
      clear ho c1 HG
      go_wp2_with fail
      go_loopw [6, 27] (fun s v wr => ∃ k : Nat, k ≤ 2 ∧ v = .int .i64 k ∧ OL wr w.heap.size s (if k = 0 then [] else if k = 1 then xs else xs ++ ys) ∧ Grow w wr) (fun _ v _ => 2 - (Go.RowKit.intOf v).toNat)
      case atStart => exact ⟨0, by omega, rfl, HO.out, HC.out⟩
      case round =>
        clear HO HC
        obtain ⟨k, hk, rfl, ho, cg⟩ := hrel
        obtain ⟨k0, k1⟩ := HB.out
        replace k0 := cg.cell k0
        replace k1 := cg.cell k1
        obtain rfl | rfl | rfl : k = 0 ∨ k = 1 ∨ k = 2 := by omega
        · obtain ⟨v', W', hr, ho', cg', -⟩ := app_more (c0 := c) cg ho (L9.L1.Rd.chg H1.out cg fun _ _ => id) (by simp; have := HN.out; omega)
          have KA := hide hr
          have HO := hide ho'
          have HC := hide cg'
          clear k1 hk hr ho' cg' ho cg
          go_wp2_with (at_builtin; refine wpList_app rfl _ _ 27 rfl u6 (.slice a n c) v' _ W' rfl rfl KA.out ?_)
          go_roundw
          case rel => exact ⟨1, by omega, rfl, HO.out, HC.out⟩
          case measure => simp [Go.RowKit.intOf]
        · obtain ⟨v', W', hr, ho', cg', -⟩ := app_more (c0 := c2) cg ho (L9.L1.Rd.chg H2.out cg fun _ _ => id) (by have := HN.out; have := HLX.out; simp; omega)
          have KA := hide hr
          have HO := hide ho'
          have HC := hide cg'
          clear k0 hk hr ho' cg' ho cg
          go_wp2_with (at_builtin; refine wpList_app rfl _ _ 27 rfl u6 (.slice a2 n2 c2) v' _ W' rfl rfl KA.out ?_)
          go_roundw
          case rel => exact ⟨2, by omega, rfl, HO.out, HC.out⟩
          case measure => simp [Go.RowKit.intOf]
        · have HO := hide ho
          have HC := hide cg
          clear k0 k1 hk ho cg
          go_wp2
          go_ret
          exact ⟨_, rfl, HO.out, HC.out⟩
end
section
variable {w : World} {z p : Nat} {S : Nat → Prop} {cs : List Cl} {L : List Nd}
set_option maxRecDepth 100000 in
theorem leads_any (k lev : Int) (w : World) : Calls Tryz.prog 95 #[.int .i64 k, .int .i64 lev] w fun e w' => e = .returned (.bool (ldB k lev)) ∧ w = w' := by
  by_cases h3 : k = 3
  · subst h3
    have e : ldB 3 lev = decide (lev ≥ 2) := by simp [ldB]
    rw [e]
    clear e
    go_enter Tryz.func95, Tryz.ntmps95
    go_wp2
    all_goals (go_ret; exact ⟨by simp_all, rfl⟩)
  by_cases h4 : k = 4
  · subst h4
    have e : ldB 4 lev = decide (lev ≥ 3) := by simp [ldB]
    rw [e]
    clear e h3
    go_enter Tryz.func95, Tryz.ntmps95
    go_wp2
    all_goals (go_ret; exact ⟨by simp_all, rfl⟩)
  by_cases h5 : k = 5
  · subst h5
    have e : ldB 5 lev = decide (lev ≥ 5) := by simp [ldB]
    rw [e]
    clear e h3 h4
    go_enter Tryz.func95, Tryz.ntmps95
    go_wp2
    all_goals (go_ret; exact ⟨by simp_all, rfl⟩)
  · have e : ldB k lev = false := by simp [ldB, h3, h4, h5]
    rw [e]
    have q3 : (k == 3) = false := by simpa using h3
    have q4 : (k == 4) = false := by simpa using h4
    have q5 : (k == 5) = false := by simpa using h5
    clear e h3 h4 h5
    go_enter Tryz.func95, Tryz.ntmps95
    go_wp2
    all_goals (go_ret; exact ⟨rfl, rfl⟩)
set_option maxRecDepth 100000 in
set_option maxHeartbeats 1000000 in
theorem start_any (h : GS w z S p cs L) (hl : L.length < 1000000) (lev : Int) {a : Option Addr} {n c : Nat} {zs : List Int} (hz : L1.Rd w a n zs) (hn : n ≤ 1000000) :
    Calls Tryz.prog 93 #[ptr p, .int .i64 lev, .slice a n c] w fun e w' => ∃ v, e = .returned v ∧ OL w' w.heap.size v (srcW L lev zs) ∧ Grow w w' := by
  by_cases h1 : lev < 1
  · rw [srcW_neg h1]
    have q1 : decide (lev < 1) = true := decide_eq_true h1
    clear h hz h1
    go_enter Tryz.func93, Tryz.ntmps93
    go_wp2
    go_ret
    exact ⟨_, rfl, ol_nil _ _, Chg.refl _ _⟩
  · rw [srcW_pos (by omega)]
    have q1 : decide (lev < 1) = false := decide_eq_false h1
    by_cases h4 : lev < 4
    · have e : srcC L lev zs = zs := by unfold srcC; rw [if_neg (by omega)]
      rw [e]
      have q2 : decide (lev < 4) = true := decide_eq_true h4
      have HC := hide (clone_any (c := c) hz (by omega))
      clear h hz h1 h4 e
      go_enter Tryz.func93, Tryz.ntmps93
      go_wp2_with fail
      refine HC.out.mono ?_
      rintro e w1 ⟨v, rfl, ho, c1⟩
      have HO := hide ho
      have HG := hide c1
      clear ho c1
      go_wp2
      go_ret
      exact ⟨_, rfl, HO.out, HG.out⟩
    · have e : srcC L lev zs = zs ++ fins L := by unfold srcC; rw [if_pos (by omega)]
      rw [e]
      have q2 : decide (lev < 4) = false := decide_eq_false h4
      have HF := hide (finals_any h hl)
      have HZ := hide hz
      have HN := hide hn
      have hfl : (fins L).length ≤ L.length := by unfold fins; rw [List.length_map]; exact List.length_filter_le _ _
      have HFL := hide (show (fins L).length < 1000000 by omega)
      clear h hz h1 h4 e hfl hn
      go_enter Tryz.func93, Tryz.ntmps93
      go_wp2_with fail
      refine HF.out.mono ?_
      rintro e w1 ⟨a', c', rfl, ho, c1⟩
      have gB := Grow.box w1 (.cells [.slice a n c, .slice a' (fins L).length c'].toArray 27)
      have HCC := hide (concat2 (Blk.new w1 27 [.slice a n c, .slice a' (fins L).length c']) (L9.L1.Rd.chg HZ.out (c1.trans gB) fun _ _ => id) (own_rd (own_grow ho gB)) (by have := HN.out; have := HFL.out; omega))
      have HG := hide (c1.trans gB)
      clear ho c1 gB HF
      go_wp2_with fail
      refine HCC.out.mono ?_
      rintro e w2 ⟨v, rfl, ho, c2⟩
      have HO := hide (OL.lower ho HG.out.size)
      have HG2 := hide (HG.out.trans c2)
      clear ho c2
      go_wp2
      go_ret
      exact ⟨_, rfl, HO.out, HG2.out⟩
end
end Go.Proofs.YtjfpjnhlnoiekaaGreat.L10
