/- Marking, without the program: what is reached; how the marked places, the work list and what is lost change. Conditions: none; nothing here speaks of the program. -/
import Derived.Test.YtaddomgjjemglaaDoorL3Is
namespace Go.Proofs.YtaddomgjjemglaaDoor.L14
open Go.Proofs.YtaddomgjjemglaaDoor.L3 (exB exB_in exB_out exB_nat setI setI_in setI_out upd upd_at upd_ne upd_same cnt cnt_on cnt_le cnt_congr cnt_mono cnt_none nx nx_cases)
set_option linter.unusedVariables false

/-- What is reached from the roots zs among n places, where place j leads to E j. -/
inductive Rch (n : Nat) (E : Nat → List Int) (zs : List Int) : Nat → Prop
  | st {j : Nat} : (j : Int) ∈ zs → j < n → Rch n E zs j
  | go {i j : Nat} : Rch n E zs i → (j : Int) ∈ E i → j < n → Rch n E zs j
/-- What is marked, what is still to be gone through, and whether something was lost. -/
structure St where
  S : Nat → Bool
  ws : List Int
  lo : Bool
def put (n r : Nat) (s : St) (x : Int) : St :=
  if (exB n x && !s.S x.toNat) = true then ⟨setI s.S n x true, if s.ws.length < r then s.ws ++ [x] else s.ws, if s.ws.length < r then s.lo else true⟩ else s
def puts (n r : Nat) (s : St) (xs : List Int) : St := xs.foldl (put n r) s
def pt (n : Nat) (s : St) : Nat := 2 * (2 * (n - cnt s.S n) + s.ws.length) + s.lo.toNat
/-- It holds between any two steps: A was asked; D is, or is being, dealt with. -/
structure Gd (n r : Nat) (E : Nat → List Int) (zs : List Int) (A : Nat → Bool) (D : Nat → Prop) (s : St) : Prop where
  wl : s.ws.length ≤ cnt s.S n
  wn : ∀ x ∈ s.ws, exB n x = true ∧ s.S x.toNat = true
  tl : ∀ j, s.S j = true → j < n
  rc : ∀ j, s.S j = true → Rch n E zs j
  cl : ∀ j, A j = true → s.S j = true ∧ ∀ x ∈ E j, exB n x = true → s.S x.toNat = true
  ls : s.lo = false → ∀ j, s.S j = true → D j ∨ (j : Int) ∈ s.ws
  lr : s.lo = true → r < cnt s.S n
/-- What a rescan that stands at t has still ahead. -/
def Dr (A : Nat → Bool) (t : Int) (j : Nat) : Prop := A j = true ∨ (0 ≤ t ∧ t ≤ (j : Int))

section
variable {n r k : Nat} {E : Nat → List Int} {zs xs l : List Int} {A : Nat → Bool} {D D' : Nat → Prop} {s : St} {x : Int} {j : Nat} {S : Nat → Bool}
theorem Rch.lt (h : Rch n E zs j) : j < n := by cases h <;> assumption
theorem setI_no (h : (exB n x && !S x.toNat) = false) : setI S n x true = S := by
  cases hx : exB n x with
  | false => exact setI_out hx
  | true =>
    obtain ⟨i, rfl, hi⟩ := exB_nat hx
    rw [setI_in hi]
    rw [hx] at h
    exact upd_same (by simpa using h)
theorem put_no (h : (exB n x && !s.S x.toNat) = false) : put n r s x = s := by unfold put; rw [h]; rfl
theorem put_in (h : (exB n x && !s.S x.toNat) = true) (hr : s.ws.length < r) : put n r s x = ⟨setI s.S n x true, s.ws ++ [x], s.lo⟩ := by unfold put; rw [if_pos h, if_pos hr, if_pos hr]
theorem put_lo (h : (exB n x && !s.S x.toNat) = true) (hr : ¬ s.ws.length < r) : put n r s x = ⟨setI s.S n x true, s.ws, true⟩ := by unfold put; rw [if_pos h, if_neg hr, if_neg hr]
theorem upd_iff {S : Nat → Bool} {i j : Nat} : upd S i true j = true ↔ j = i ∨ S j = true := by
  by_cases h : j = i
  · subst h; simp [upd_at]
  · rw [upd_ne h]; simp [h]
theorem cnt_put (h : (exB n x && !S x.toNat) = true) : cnt (setI S n x true) n = cnt S n + 1 ∧ cnt S n + 1 ≤ n := by
  rw [Bool.and_eq_true] at h
  obtain ⟨i, rfl, hi⟩ := exB_nat h.1
  have h0 : S i = false := by simpa using h.2
  rw [setI_in hi]
  have e := cnt_on (S := S) hi h0 (upd_at S i true) fun j hj => upd_ne hj
  exact ⟨e, by rw [← e]; exact cnt_le _ _⟩
theorem put_sub (j : Nat) (h : s.S j = true) : (put n r s x).S j = true := by
  unfold put
  split
  · exact L3.setI_on h
  · exact h
theorem puts_sub (xs : List Int) : ∀ {s : St} (j : Nat), s.S j = true → (puts n r s xs).S j = true := by
  induction xs with
  | nil => exact fun j h => h
  | cons x l ih => exact fun j h => ih j (put_sub j h)
theorem puts_has (xs : List Int) : ∀ {s : St}, ∀ x ∈ xs, exB n x = true → (puts n r s xs).S x.toNat = true := by
  induction xs with
  | nil => exact fun x hx => by cases hx
  | cons y l ih =>
    intro s x hx he
    rcases List.mem_cons.1 hx with rfl | hx
    · refine puts_sub l _ ?_
      unfold put
      split
      · obtain ⟨i, rfl, hi⟩ := exB_nat he
        show setI s.S n (i : Int) true _ = true
        rw [setI_in hi]
        exact upd_at _ _ _
      · rename_i h
        rw [he] at h
        simpa using h
    · exact ih x hx he
theorem puts_take {j : Nat} (hj : j < xs.length) : puts n r s (xs.take (j + 1)) = put n r (puts n r s (xs.take j)) (xs.getD j 0) := by
  unfold puts
  rw [List.take_add_one, List.foldl_append, List.getElem?_eq_getElem hj, List.getD_eq_getElem?_getD, List.getElem?_eq_getElem hj]
  rfl
theorem put_wl (h : s.ws.length ≤ cnt s.S n) : (put n r s x).ws.length ≤ cnt (put n r s x).S n := by
  cases hx : (exB n x && !s.S x.toNat) with
  | false => rw [put_no hx]; exact h
  | true =>
    have hc := cnt_put hx
    by_cases hr : s.ws.length < r
    · rw [put_in hx hr]
      show (s.ws ++ [x]).length ≤ cnt (setI s.S n x true) n
      rw [hc.1, List.length_append]
      simpa using h
    · rw [put_lo hx hr]
      show s.ws.length ≤ cnt (setI s.S n x true) n
      omega
theorem put_pt (h : s.ws.length ≤ cnt s.S n) : pt n (put n r s x) ≤ pt n s := by
  cases hx : (exB n x && !s.S x.toNat) with
  | false => rw [put_no hx]; exact Nat.le_refl _
  | true =>
    have hc := cnt_put hx
    by_cases hr : s.ws.length < r
    · rw [put_in hx hr]
      unfold pt
      dsimp only
      rw [hc.1, List.length_append, List.length_singleton]
      omega
    · rw [put_lo hx hr]
      unfold pt
      dsimp only
      rw [hc.1]
      have : s.lo.toNat ≤ 1 := by cases s.lo <;> decide
      have : true.toNat = 1 := rfl
      omega
theorem puts_pt (xs : List Int) : ∀ {s : St}, s.ws.length ≤ cnt s.S n → pt n (puts n r s xs) ≤ pt n s := by
  induction xs with
  | nil => exact fun _ => Nat.le_refl _
  | cons x l ih => exact fun h => Nat.le_trans (ih (put_wl h)) (put_pt h)
theorem Gd.put (h : Gd n r E zs A D s) (hx : ∀ j : Nat, x = (j : Int) → j < n → Rch n E zs j) : Gd n r E zs A D (put n r s x) := by
  cases hb : (exB n x && !s.S x.toNat) with
  | false => rw [put_no hb]; exact h
  | true =>
    have hc := cnt_put hb
    have hb' := hb
    rw [Bool.and_eq_true] at hb'
    obtain ⟨i, rfl, hi⟩ := exB_nat hb'.1
    have hw := put_wl (n := n) (r := r) (x := (i : Int)) h.wl
    have hR := hx i rfl hi
    have sub : ∀ j, s.S j = true → upd s.S i true j = true := fun j hj => upd_iff.2 (.inr hj)
    have htl : ∀ j, upd s.S i true j = true → j < n := fun j hj => by
      rcases upd_iff.1 hj with rfl | hj
      · exact hi
      · exact h.tl j hj
    have hrc : ∀ j, upd s.S i true j = true → Rch n E zs j := fun j hj => by
      rcases upd_iff.1 hj with rfl | hj
      · exact hR
      · exact h.rc j hj
    have has : ∀ j, A j = true → upd s.S i true j = true ∧ ∀ x ∈ E j, exB n x = true → upd s.S i true x.toNat = true := fun j hj =>
      ⟨sub j (h.cl j hj).1, fun x hx he => sub _ ((h.cl j hj).2 x hx he)⟩
    by_cases hr : s.ws.length < r
    · rw [put_in hb hr] at hw ⊢
      rw [setI_in hi] at hw hc ⊢
      refine ⟨hw, fun x hx => ?_, htl, hrc, has, fun hl j hj => ?_, fun hl => by have := h.lr hl; dsimp only; omega⟩
      · rcases List.mem_append.1 hx with hx | hx
        · exact ⟨(h.wn x hx).1, sub _ (h.wn x hx).2⟩
        · obtain rfl := List.mem_singleton.1 hx
          exact ⟨exB_in hi, upd_at _ _ _⟩
      · rcases upd_iff.1 hj with rfl | hj
        · exact .inr (List.mem_append_right _ (List.mem_singleton.2 rfl))
        · exact (h.ls hl j hj).imp id fun hw => List.mem_append_left _ hw
    · rw [put_lo hb hr] at hw ⊢
      rw [setI_in hi] at hw hc ⊢
      refine ⟨hw, fun x hx => ⟨(h.wn x hx).1, sub _ (h.wn x hx).2⟩, htl, hrc, has, (fun hl => by cases hl), fun _ => ?_⟩
      have := h.wl
      dsimp only
      omega
theorem Gd.puts (xs : List Int) : ∀ {s : St}, Gd n r E zs A D s → (∀ j : Nat, (j : Int) ∈ xs → j < n → Rch n E zs j) → Gd n r E zs A D (puts n r s xs) := by
  induction xs with
  | nil => exact fun h _ => h
  | cons x l ih => exact fun h hx => ih (h.put fun j e hj => hx j (e ▸ List.mem_cons_self) hj) fun j hj => hx j (List.mem_cons_of_mem _ hj)
/-- A place that is marked is asked, and what it leads to marked. -/
theorem Gd.ask (h : Gd n r E zs A D s) (hk : s.S k = true) (hD : ∀ j, (L14.puts n r s (E k)).S j = true → D j → D' j) : Gd n r E zs (upd A k true) D' (L14.puts n r s (E k)) := by
  have h1 := h.puts (E k) fun j hj hn => .go (h.rc k hk) hj hn
  refine ⟨h1.wl, h1.wn, h1.tl, h1.rc, fun j hj => ?_, fun hl j hj => (h1.ls hl j hj).imp (hD j hj) id, h1.lr⟩
  rcases upd_iff.1 hj with rfl | hj
  · exact ⟨puts_sub _ _ hk, fun x hx he => puts_has _ x hx he⟩
  · exact h1.cl j hj
/-- One is taken off the work list, asked, and what it leads to marked. -/
theorem Gd.take (h : Gd n r E zs A (fun j => A j = true) s) (he : s.ws = l ++ [(k : Int)]) :
    s.S k = true ∧ k < n ∧ Gd n r E zs (upd A k true) (fun j => upd A k true j = true) (L14.puts n r ⟨s.S, l, s.lo⟩ (E k)) := by
  have hk := h.wn k (by rw [he]; exact List.mem_append_right _ (List.mem_singleton.2 rfl))
  have hk2 : s.S k = true := hk.2
  have h1 : Gd n r E zs A (fun j => A j = true ∨ j = k) ⟨s.S, l, s.lo⟩ := by
    refine ⟨?_, fun x hx => h.wn x (by rw [he]; exact List.mem_append_left _ hx), h.tl, h.rc, h.cl, fun hl j hj => ?_, h.lr⟩
    · have := h.wl
      rw [he, List.length_append] at this
      exact Nat.le_trans (Nat.le_add_right _ _) this
    · rcases h.ls hl j hj with hj | hj
      · exact .inl (.inl hj)
      · rw [he] at hj
        rcases List.mem_append.1 hj with hj | hj
        · exact .inr hj
        · have := List.mem_singleton.1 hj
          exact .inl (.inr (by omega))
  refine ⟨hk2, h.tl k hk2, h1.ask hk2 fun j _ hj => upd_iff.2 ?_⟩
  rcases hj with hj | hj
  · exact .inr hj
  · exact .inl hj
theorem take_pt (he : s.ws = l ++ [x]) (hw : s.ws.length ≤ cnt s.S n) (xs : List Int) : pt n (L14.puts n r ⟨s.S, l, s.lo⟩ xs) < pt n s := by
  have hl : s.ws.length = l.length + 1 := by rw [he, List.length_append]; rfl
  refine Nat.lt_of_le_of_lt (puts_pt (r := r) xs (s := ⟨s.S, l, s.lo⟩) (by show l.length ≤ cnt s.S n; omega)) ?_
  unfold pt
  dsimp only
  omega
/-- A rescan begins: nothing is lost, all is ahead. -/
theorem Gd.begins (h : Gd n r E zs A D s) : Gd n r E zs A (Dr A (nx s.S n 0)) ⟨s.S, s.ws, false⟩ := by
  refine ⟨h.wl, h.wn, h.tl, h.rc, h.cl, fun _ j hj => .inl ?_, (fun hl => by cases hl)⟩
  have hjn := h.tl j hj
  rcases nx_cases s.S n 0 with ⟨_, h0⟩ | ⟨i, e, _, _, _, h0⟩
  · have := h0 j (by simp) hjn
    rw [hj] at this
    cases this
  · rw [e]
    refine .inr ⟨by omega, ?_⟩
    rcases Nat.lt_or_ge j i with hlt | hge
    · have := h0 j (by simp) hlt
      rw [hj] at this
      cases this
    · omega
/-- A rescan's visit. -/
theorem Gd.visit (h : Gd n r E zs A (Dr A (k : Int)) s) (hk : s.S k = true) :
    Gd n r E zs (upd A k true) (Dr (upd A k true) (nx (L14.puts n r s (E k)).S n ((k + 1 : Nat) : Int))) (L14.puts n r s (E k)) := by
  have h1 := h.puts (E k) fun j hj hn => .go (h.rc k hk) hj hn
  refine h.ask hk fun j hj hd => ?_
  rcases hd with hd | ⟨_, hd⟩
  · exact .inl (upd_iff.2 (.inr hd))
  · by_cases e : j = k
    · exact .inl (upd_iff.2 (.inl e))
    · have hjn := h1.tl j hj
      have h2 : k + 1 ≤ j := by omega
      rcases nx_cases (L14.puts n r s (E k)).S n ((k + 1 : Nat) : Int) with ⟨_, h0⟩ | ⟨i, e, _, _, _, h0⟩
      · have := h0 j (by simpa using h2) hjn
        rw [hj] at this
        cases this
      · rw [e]
        refine .inr ⟨by omega, ?_⟩
        rcases Nat.lt_or_ge j i with hlt | hge
        · have := h0 j (by simpa using h2) hlt
          rw [hj] at this
          cases this
        · omega
theorem Gd.ended (h : Gd n r E zs A (Dr A (-1)) s) : Gd n r E zs A (fun j => A j = true) s :=
  ⟨h.wl, h.wn, h.tl, h.rc, h.cl, fun hl j hj => (h.ls hl j hj).imp (fun hd => by
    rcases hd with hd | ⟨hd, _⟩
    · exact hd
    · exact absurd hd (by decide)) id, h.lr⟩
theorem Gd.start (n r : Nat) (E : Nat → List Int) (zs : List Int) : Gd n r E zs (fun _ => false) (fun j => (fun _ => false : Nat → Bool) j = true) ⟨fun _ => false, [], false⟩ :=
  ⟨Nat.zero_le _, (fun x hx => by cases hx), (fun j hj => by cases hj), (fun j hj => by cases hj), (fun j hj => by cases hj), (fun _ j hj => by cases hj), (fun hl => by cases hl)⟩
theorem Gd.roots (n r : Nat) (E : Nat → List Int) (zs : List Int) : Gd n r E zs (fun _ => false) (fun j => (fun _ => false : Nat → Bool) j = true) (L14.puts n r ⟨fun _ => false, [], false⟩ zs) :=
  (Gd.start n r E zs).puts zs fun j hj hn => .st hj hn
theorem Gd.done (h : Gd n r E zs A (fun j => A j = true) s) (hw : s.ws = []) (hl : s.lo = false) (hz : ∀ x ∈ zs, exB n x = true → s.S x.toNat = true) :
    (∀ j, s.S j = true ↔ Rch n E zs j) ∧ A = s.S := by
  have hA : ∀ j, s.S j = true → A j = true := fun j hj => (h.ls hl j hj).resolve_right (by rw [hw]; simp)
  refine ⟨fun j => ⟨h.rc j, fun hr => ?_⟩, funext fun j => ?_⟩
  · induction hr with
    | st h1 h2 => exact hz _ h1 (exB_in h2)
    | go h1 h2 h3 ih => exact (h.cl _ (hA _ ih)).2 _ h2 (exB_in h3)
  · cases hs : s.S j with
    | true => exact hA j hs
    | false =>
      cases ha : A j with
      | false => rfl
      | true => rw [(h.cl j ha).1] at hs; cases hs
/-- There is a set that says what is reached. -/
theorem ex_rch (n : Nat) (E : Nat → List Int) (zs : List Int) : ∃ S : Nat → Bool, ∀ j, S j = true ↔ Rch n E zs j :=
  ⟨fun j => @decide (Rch n E zs j) (Classical.propDecidable _), fun j => @decide_eq_true_iff _ (Classical.propDecidable _)⟩
theorem rch_eq {S T : Nat → Bool} (h : ∀ j, S j = true ↔ Rch n E zs j) (k : ∀ j, T j = true ↔ Rch n E zs j) : S = T := by
  funext j
  have := (h j).trans (k j).symm
  cases hs : S j <;> cases ht : T j <;> simp_all
theorem rch_mono {zs' : List Int} (h : ∀ x ∈ zs, x ∈ zs') (hr : Rch n E zs j) : Rch n E zs' j := by
  induction hr with
  | st h1 h2 => exact .st (h _ h1) h2
  | go _ h2 h3 ih => exact .go ih h2 h3
theorem rch_same {E' : Nat → List Int} {zs' : List Int} (h : ∀ x, x ∈ zs ↔ x ∈ zs') (hE : ∀ i x, i < n → (x ∈ E i ↔ x ∈ E' i)) : Rch n E zs j ↔ Rch n E' zs' j := by
  constructor
  · intro hr
    induction hr with
    | st h1 h2 => exact .st ((h _).1 h1) h2
    | go h1 h2 h3 ih => exact .go ih ((hE _ _ h1.lt).1 h2) h3
  · intro hr
    induction hr with
    | st h1 h2 => exact .st ((h _).2 h1) h2
    | go h1 h2 h3 ih => exact .go ih ((hE _ _ h1.lt).2 h2) h3
end
end Go.Proofs.YtaddomgjjemglaaDoor.L14
