/- Sets of queues: rename: every thing gets the name that a map gives it. Conditions: at most 1000000 things a queue; the map has a name for each thing that was ever put in. -/
import Derived.Test.YtgaoodjlcjmomaaL12Rn
namespace Go.Proofs.Ytgaoodjlcjmomaa.L12
open Go.ChangeShapes Go.WideShapes Go.ChangeAt Go.RowKit Go.Maps
set_option linter.unusedVariables false

/-- Just those of a list. -/
abbrev memF (L : List Int) : Int → Option Unit := fun x => if x ∈ L then some () else none
/-- Each one once. -/
def dd : List Int → List Int
  | [] => []
  | x :: l => if x ∈ l then dd l else x :: dd l
theorem dd_mem (x : Int) : ∀ l : List Int, x ∈ dd l ↔ x ∈ l
  | [] => Iff.rfl
  | y :: l => by
    unfold dd
    have ih := dd_mem x l
    split
    · rename_i h
      rw [ih, List.mem_cons]
      exact ⟨.inr, fun h' => h'.elim (fun e => by rw [e]; exact h) id⟩
    · rw [List.mem_cons, List.mem_cons, ih]
theorem dd_nodup : ∀ l : List Int, (dd l).Nodup
  | [] => List.nodup_nil
  | y :: l => by
    unfold dd
    split
    · exact dd_nodup l
    · rename_i h
      exact List.nodup_cons.2 ⟨fun h' => h ((dd_mem y l).1 h'), dd_nodup l⟩
theorem dd_len : ∀ l : List Int, (dd l).length ≤ l.length
  | [] => Nat.le_refl _
  | y :: l => by
    unfold dd
    have := dd_len l
    split <;> simp <;> omega
section
variable {w w' W w0 : World} {z p n m me m0 i j : Nat} {S T : Nat → Prop} {v : Nat → Value} {Q : Nat → List Int} {E K L L' : List Int} {x q : Int} {mv : Value} {f : Int → Int}
theorem Mg.eq_ {g g' : Int → Option Unit} (h : Mg eU w m n g) (e : g = g') : Mg eU w m n g' := e ▸ h
theorem memF_iff (h : ∀ y, y ∈ L ↔ y ∈ L') : memF L = memF L' := by
  funext y
  by_cases e : y ∈ L
  · rw [memF, memF, if_pos e, if_pos ((h y).1 e)]
  · rw [memF, memF, if_neg e, if_neg fun e' => e ((h y).2 e')]
theorem Mg.le (h : Mg eU w m n (memF L)) : n ≤ L.length := by
  have := h.size_eq (ids := dd L) (fun x => by
    rw [dd_mem]
    by_cases e : x ∈ L <;> simp [e]) (dd_nodup L)
  have := dd_len L
  omega
/-- One more in the map. -/
theorem Mg.add (h : Mg eU w m n (memF L)) (hb : L.length < 10000000) (hx : In64 x) :
    ∃ w', (Instr.mapUpdate 27 (.map (some m)) (.int .i64 x) (.agg #[])).run Try.prog w = .ok () w' ∧ (∃ n', Mg eU w' m n' (memF (x :: L))) ∧ Chg (· = m) w w' := by
  have hn := h.le
  obtain ⟨w', h1, h2, h3⟩ := h.put eU_ok (by unfold maxLen; omega) hx ()
  refine ⟨w', h1, ⟨_, h2.eq_ ?_⟩, h3⟩
  funext y
  by_cases e : y = x
  · simp [e]
  · by_cases e2 : y ∈ L <;> simp [memF, e, e2]
/-- What rename keeps of what was ever put in. -/
def rnE (f : Int → Int) (Q : Nat → List Int) (E : List Int) : List Int := (E.filter fun x => !decide (f x = 0) || decide (x ∈ cat Q 4)).map f
def rnQ (f : Int → Int) (Q : Nat → List Int) : Nat → List Int := fun i => (Q i).map f
/-- The names' map. -/
def nmF (f : Int → Int) (E : List Int) : Int → Option Int := fun x => if x ∈ E then some (f x) else none
/-- What is in the new map behind the first loop; in it. -/
def k1 (f : Int → Int) (E : List Int) : List Int := (E.filter fun x => !decide (f x = 0)).map f
def k0 (f : Int → Int) (E : List Int) (left : Int → Bool) : List Int := (E.filter fun x => !left x && !decide (f x = 0)).map f
theorem mem_cat (h : ∀ i, i < 4 → ∀ x ∈ Q i, x ∈ E) : ∀ k, k ≤ 4 → ∀ x ∈ cat Q k, x ∈ E
  | 0, _, x, hx => by cases hx
  | k + 1, hk, x, hx => by
    rcases List.mem_append.1 hx with hx | hx
    · exact mem_cat h k (by omega) x hx
    · exact h k (by omega) x hx
theorem rnE_mem (h : ∀ x ∈ cat Q 4, x ∈ E) (y : Int) : y ∈ rnE f Q E ↔ y ∈ (cat Q 4).map f ++ k1 f E := by
  unfold rnE k1
  rw [List.mem_append, List.mem_map, List.mem_map, List.mem_map]
  constructor
  · rintro ⟨x, hx, rfl⟩
    obtain ⟨h1, h2⟩ := List.mem_filter.1 hx
    by_cases hc : x ∈ cat Q 4
    · exact .inl ⟨x, hc, rfl⟩
    · exact .inr ⟨x, List.mem_filter.2 ⟨h1, by simpa [hc] using h2⟩, rfl⟩
  · rintro (⟨x, hx, rfl⟩ | ⟨x, hx, rfl⟩)
    · exact ⟨x, List.mem_filter.2 ⟨h x hx, by simp [hx]⟩, rfl⟩
    · obtain ⟨h1, h2⟩ := List.mem_filter.1 hx
      exact ⟨x, List.mem_filter.2 ⟨h1, by rw [h2]; rfl⟩, rfl⟩
/-- The lists within the second loop. -/
def qc (f : Int → Int) (Q : Nat → List Int) (i j : Nat) : Nat → List Int := fun k => if k < i then (Q k).map f else if k = i then ((Q k).take j).map f ++ (Q k).drop j else Q k
def kc (f : Int → Int) (Q : Nat → List Int) (E : List Int) (i j : Nat) : List Int := ((Q i).take j).map f ++ ((cat Q i).map f ++ k1 f E)
theorem qc_zero (i : Nat) : qc f Q i 0 i = Q i := by simp [qc]
theorem qc_start : qc f Q 0 0 = Q := by
  funext k
  unfold qc
  rw [if_neg (by omega)]
  split <;> simp
theorem qc_next (i : Nat) : qc f Q i (Q i).length = qc f Q (i + 1) 0 := by
  funext k
  unfold qc
  rcases Nat.lt_trichotomy k i with h | h | h
  · rw [if_pos h, if_pos (by omega)]
  · subst h
    rw [if_neg (by omega), if_pos rfl, if_pos (by omega)]
    simp
  · rw [if_neg (by omega), if_neg (by omega), if_neg (by omega)]
    split <;> simp
theorem qc_end : qc f Q 4 0 = fun k => if k < 4 then (Q k).map f else Q k := by
  funext k
  unfold qc
  split
  · rfl
  · split <;> simp
theorem qc_len (i j k : Nat) : (qc f Q i j k).length = (Q k).length := by
  unfold qc
  split
  · simp
  · split
    · rename_i e
      subst e
      simp
      omega
    · rfl
theorem qc_get {j : Nat} (hj : j < (Q i).length) : (qc f Q i j i).getD j 0 = (Q i).getD j 0 := by
  unfold qc
  rw [if_neg (by omega), if_pos rfl, List.getD_eq_getElem?_getD, List.getElem?_append_right (by simp; omega)]
  simp [List.getD_eq_getElem?_getD]
  congr 2
  omega
theorem qc_set {j : Nat} (hj : j < (Q i).length) : upd (qc f Q i j) i ((qc f Q i j i).set j (f ((Q i).getD j 0))) = qc f Q i (j + 1) := by
  funext k
  by_cases e : k = i
  · subst e
    rw [upd_at]
    unfold qc
    rw [if_neg (by omega), if_pos rfl, if_neg (by omega), if_pos rfl]
    rw [List.set_append_right _ _ (by simp; omega), List.take_add_one, List.getElem?_eq_getElem hj, List.map_append]
    have e1 : j - (List.map f (List.take j (Q k))).length = 0 := by simp; omega
    have e2 : (Q k).getD j 0 = (Q k)[j] := by rw [List.getD_eq_getElem?_getD, List.getElem?_eq_getElem hj]; rfl
    rw [e1, e2, List.drop_eq_getElem_cons hj]
    generalize List.drop (j + 1) (Q k) = D
    simp
  · rw [upd_ne _ _ e]
    unfold qc
    split
    · rfl
    · rfl
theorem kc_step {j : Nat} (hj : j < (Q i).length) (y : Int) : y ∈ f ((Q i).getD j 0) :: kc f Q E i j ↔ y ∈ kc f Q E i (j + 1) := by
  have e2 : (Q i).getD j 0 = (Q i)[j] := by rw [List.getD_eq_getElem?_getD, List.getElem?_eq_getElem hj]; rfl
  unfold kc
  rw [List.take_add_one, List.getElem?_eq_getElem hj, e2, List.map_append, Option.toList_some, List.map_cons, List.map_nil]
  generalize List.map f (List.take j (Q i)) = A
  generalize List.map f (cat Q i) ++ k1 f E = B
  generalize f (Q i)[j] = u
  simp only [List.mem_cons, List.mem_append, List.not_mem_nil, or_false]
  constructor
  · rintro (h | h | h)
    · exact .inl (.inr h)
    · exact .inl (.inl h)
    · exact .inr h
  · rintro ((h | h) | h)
    · exact .inr (.inl h)
    · exact .inl h
    · exact .inr (.inr h)
theorem kc_next (i : Nat) (y : Int) : y ∈ kc f Q E i (Q i).length ↔ y ∈ kc f Q E (i + 1) 0 := by
  unfold kc
  simp only [List.take_length, List.take_zero, List.map_nil, List.nil_append, cat, List.map_append, List.mem_append, List.append_assoc]
  constructor
  · rintro (h | h | h)
    · exact .inr (.inl h)
    · exact .inl h
    · exact .inr (.inr h)
  · rintro (h | h | h)
    · exact .inr (.inl h)
    · exact .inl h
    · exact .inr (.inr h)
/-- What stands between two steps of the second loop. -/
structure Rn (w0 w : World) (z p me m0 : Nat) (S : Nat → Prop) (v : Nat → Value) (Q : Nat → List Int) (E : List Int) (f : Int → Int) (i j : Nat) : Prop where
  blk : Blk w p 29 (five v)
  ls : Ls w z 4 v (qc f Q i j)
  me_ : ∃ n, Mg eU w me n (memF (kc f Q E i j))
  nm : ∃ n, Mg eI w m0 n (nmF f E)
  c : Chg (fun k => ∃ i, i < 4 ∧ (v i).ownBlock = some k) w0 w
  mn : w0.heap.size ≤ me
  mm : m0 ≠ me
theorem Rn.next (h : Rn w0 w z p me m0 S v Q E f i (Q i).length) : Rn w0 w z p me m0 S v Q E f (i + 1) 0 := by
  obtain ⟨n, hm⟩ := h.me_
  exact ⟨h.blk, by rw [← qc_next]; exact h.ls, ⟨n, hm.eq_ (memF_iff fun y => kc_next i y)⟩, h.nm, h.c, h.mn, h.mm⟩
/-- Names of at most so many: what can be in the new map. -/
theorem kc_len (hb : E.length < 1000000) (hl : ∀ i, i < 4 → (Q i).length < 1000000) (hi : i < 4) (j : Nat) : (kc f Q E i j).length < 10000000 := by
  have h1 := cat_len hl i (by omega)
  have h2 := hl i hi
  have h3 : (k1 f E).length ≤ E.length := by unfold k1; rw [List.length_map]; exact List.length_filter_le _ _
  have h4 : ((Q i).take j).length ≤ (Q i).length := by simp; omega
  unfold kc
  rw [List.length_append, List.length_append, List.length_map, List.length_map]
  omega
/-- One step: what is read, what is written. -/
theorem Rn.step (h : Rn w0 w z p me m0 S v Q E f i j) (hi : i < 4) (hj : j < (Q i).length) (hb : E.length < 1000000) (hl : ∀ i, i < 4 → (Q i).length < 1000000) (hin : ∀ x ∈ Q i, x ∈ E) (hf : ∀ x ∈ E, In64 (f x)) (hw : ∀ x ∈ E, In64 x) :
    ∃ g off cap W2, v i = .slice (some ⟨g, off, none⟩) (Q i).length cap ∧ w.cell? ⟨g, off + j, none⟩ = some (.int .i64 ((Q i).getD j 0)) ∧ w.frozen? ⟨g, off + j, none⟩ = false ∧
      (Instr.lookup 64 (.map (some m0)) (.int .i64 ((Q i).getD j 0)) true).run Try.prog w = .ok (.tuple #[.int .i64 (f ((Q i).getD j 0)), .bool true]) w ∧
      (Instr.mapUpdate 27 (.map (some me)) (.int .i64 (f ((Q i).getD j 0))) (.agg #[])).run Try.prog (w.setCell ⟨g, off + j, none⟩ (.int .i64 (f ((Q i).getD j 0)))) = .ok () W2 ∧
      Rn w0 W2 z p me m0 S v Q E f i (j + 1) := by
  have hq := h.ls.ql i hi
  have hlen : (qc f Q i j i).length = (Q i).length := qc_len i j i
  obtain ⟨g, off, cap, hv, hzg, hg, hcap, hmax⟩ := hq.pos (by omega)
  have hqs := hq
  rw [hv] at hqs
  obtain ⟨hc, hfr⟩ := hqs.cell (k := j) (by omega)
  rw [qc_get hj] at hc
  have hset := hqs.set (k := j) (by omega) (f ((Q i).getD j 0))
  have hx : (Q i).getD j 0 ∈ E := hin _ (by rw [List.getD_eq_getElem?_getD, List.getElem?_eq_getElem hj]; exact List.getElem_mem _)
  have hqset : upd (qc f Q i j) i ((qc f Q i j i).set j (f ((Q i).getD j 0))) = qc f Q i (j + 1) := qc_set hj
  have hstep := fun y => kc_step (f := f) (E := E) hj y
  generalize (Q i).getD j 0 = x at *
  obtain ⟨n0, hnm⟩ := h.nm
  obtain ⟨n1, hme⟩ := h.me_
  have hlook := hnm.look eI_ok (hw x hx) true
  have hlv : lookV eI true (nmF f E x) = .tuple #[.int .i64 (f x), .bool true] := by unfold nmF; rw [if_pos hx]; rfl
  rw [hlv] at hlook
  have hob : (v i).ownBlock = some g := by rw [hv]; rfl
  have c1 : Chg (· = g) w (w.setCell ⟨g, off + j, none⟩ (.int .i64 (f x))) := (Chg.refl _ _).set1 _ _
  have hgme : g ≠ me := by
    obtain ⟨a, b, e⟩ := hme.map_
    intro e2
    exact hq.ne_map e (by rw [hob, e2])
  have hgm0 : g ≠ m0 := by
    obtain ⟨a, b, e⟩ := hnm.map_
    intro e2
    exact hq.ne_map e (by rw [hob, e2])
  have hgp : p ≠ g := fun e => hq.ne h.blk (by decide) (by rw [hob, e])
  obtain ⟨W2, hu, ⟨n2, hme2⟩, c2⟩ := (hme.chg c1 hgme.symm).add (kc_len hb hl hi j) (hf x hx)
  have hls1 := h.ls.upd hi hset c1 (fun k hk hki b hb e => h.ls.ap k i hk hi hki b hb (by rw [e]; exact hob)) (fun k hk => .inl (by rw [hv]; exact hk))
  rw [← hv, hqset] at hls1
  have eu : upd v i (v i) = v := by
    funext k
    by_cases e : k = i
    · rw [e, upd_at]
    · rw [upd_ne _ _ e]
  rw [eu] at hls1
  have hpme : p ≠ me := hme.ne h.blk
  refine ⟨g, off, cap, W2, by rw [hv, hlen], hc, hfr, hlook, hu, ?_, ?_, ⟨n2, hme2.eq_ (memF_iff hstep)⟩, ⟨n0, (hnm.chg c1 hgm0.symm).chg c2 h.mm⟩, ?_, h.mn, h.mm⟩
  · exact (h.blk.chg c1 hgp).chg c2 hpme
  · obtain ⟨a, b, e⟩ := hme.map_
    exact hls1.chg c2 fun k hk b' hb' e' => (h.ls.ql k hk).ne_map e (by rw [hb', e'])
  · exact (h.c.step c1 fun k _ e => ⟨i, hi, by rw [e]; exact hob⟩).step c2 fun k hk e => by have := h.mn; omega
end
end Go.Proofs.Ytgaoodjlcjmomaa.L12
