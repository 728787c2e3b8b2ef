/- Reference processing, without the program: what lives, what is cleared, what is to be finalized; sorted lists of names. Conditions: none; nothing here speaks of the program. -/
import Derived.Test.YtjfpjnhlnoiekaaGreatL10E
namespace Go.Proofs.YtjfpjnhlnoiekaaGreat.L13
open Go.Proofs.YtjfpjnhlnoiekaaGreat.L9 (Nd nd Srt In64 hldX aimX nd_some nd_none nd_mem hld kd)
open Go.Proofs.YtjfpjnhlnoiekaaGreat.L10 (Rc IsRc outs ldB clL fins fnB srcC clL_srt rc_nil put)
open Go.Proofs.YtjfpjnhlnoiekaaGreat.L5 (Cl clAt isRf)
set_option linter.unusedVariables false

/-- What lives behind the second step: what is held, and what kept Soft nodes aim at. -/
inductive Kc (cs : List Cl) (L : List Nd) (K : Int → Bool) (zs : List Int) : Int → Prop
  | st {i : Int} : i ∈ zs → nd L i ≠ none → Kc cs L K zs i
  | go {i j : Int} : Kc cs L K zs i → j ∈ hldX cs L i → nd L j ≠ none → Kc cs L K zs j
  | kp {i : Int} : Kc cs L K zs i → (aimX cs L i).2 = 3 → K i = true → nd L (aimX cs L i).1 ≠ none → Kc cs L K zs (aimX cs L i).1
def IsKc (cs : List Cl) (L : List Nd) (K : Int → Bool) (zs : List Int) (p : Int → Bool) : Prop := ∀ i, p i = true ↔ Kc cs L K zs i
/-- Is there a node with this name? -/
def isN (L : List Nd) (i : Int) : Bool := (nd L i).isSome
/-- Does a live node aim at one that is not live? -/
def los (cs : List Cl) (L : List Nd) (p : Int → Bool) (i : Int) : Bool := p i && (isN L (aimX cs L i).1 && !p (aimX cs L i).1)
def sw (k : Int) : Bool := decide (k = 3) || decide (k = 4)
/-- Cleared in the third step, the fifth, the sixth; to be finalized. -/
def e1 (cs : List Cl) (L : List Nd) (p : Int → Bool) (i : Int) : Bool := los cs L p i && sw (aimX cs L i).2
def e2 (cs : List Cl) (L : List Nd) (p q : Int → Bool) (i : Int) : Bool := los cs L q i && (!e1 cs L p i && sw (aimX cs L i).2)
def e3 (cs : List Cl) (L : List Nd) (q : Int → Bool) (i : Int) : Bool := los cs L q i && decide ((aimX cs L i).2 = 5)
def fi (L : List Nd) (p : Int → Bool) (i : Int) : Bool := fnB L i && !p i
/-- Live behind the second step: p; behind the fourth: q. -/
structure Rs (cs : List Cl) (L : List Nd) (K : Int → Bool) (zs : List Int) (p q : Int → Bool) : Prop where
  a : IsKc cs L K zs p
  b : ∀ i, q i = true ↔ Rc cs L 1 (clL L p ++ clL L (fi L p)) i
/-- What is cleared. -/
def ces (cs : List Cl) (L : List Nd) (p q : Int → Bool) : List Int := clL L (e1 cs L p) ++ clL L (e2 cs L p q) ++ clL L (e3 cs L q)
section
variable {cs : List Cl} {L : List Nd} {K : Int → Bool} {zs ss : List Int} {p q r p' q' : Int → Bool} {i j : Int}
theorem isN_ne : isN L i = true ↔ nd L i ≠ none := by unfold isN; rw [Option.isSome_iff_ne_none]
theorem Kc.is_ (h : Kc cs L K zs i) : nd L i ≠ none := by cases h <;> assumption
theorem ex_kc (cs : List Cl) (L : List Nd) (K : Int → Bool) (zs : List Int) : ∃ p, IsKc cs L K zs p :=
  ⟨fun i => @decide (Kc cs L K zs i) (Classical.propDecidable _), fun i => @decide_eq_true_iff _ (Classical.propDecidable _)⟩
theorem IsKc.eq (h : IsKc cs L K zs p) (k : IsKc cs L K zs q) : p = q := by
  funext i
  rw [Bool.eq_iff_iff, h i, k i]
theorem outs1 (cs : List Cl) (L : List Nd) (i : Int) : outs cs L 1 i = hldX cs L i := by
  have e : ∀ k, ldB k 1 = false := fun k => by simp [ldB]
  unfold outs
  rw [e, if_neg (by simp), List.append_nil]
/-- A set that has the beginning, is closed, and has nothing but what lives, is it. -/
theorem IsKc.mk (h1 : ∀ i, p i = true → Kc cs L K zs i) (h2 : ∀ i ∈ zs, nd L i ≠ none → p i = true) (h3 : ∀ i j, p i = true → j ∈ hldX cs L i → nd L j ≠ none → p j = true)
    (h4 : ∀ i, p i = true → (aimX cs L i).2 = 3 → K i = true → nd L (aimX cs L i).1 ≠ none → p (aimX cs L i).1 = true) : IsKc cs L K zs p := by
  intro i
  refine ⟨h1 i, fun h => ?_⟩
  induction h with
  | st h k => exact h2 _ h k
  | go _ h k ih => exact h3 _ _ ih h k
  | kp _ h k m ih => exact h4 _ ih h k m
theorem Rc.toKc (h : Rc cs L 1 zs i) : Kc cs L K zs i := by
  induction h with
  | st h k => exact .st h k
  | go _ h k ih => exact .go ih (by rw [outs1] at h; exact h) k
/-- Without anything that is kept. -/
theorem Kc.toRc (h : Kc cs L (fun _ => false) zs i) : Rc cs L 1 zs i := by
  induction h with
  | st h k => exact .st h k
  | go _ h k ih => exact .go ih (by rw [outs1]; exact h) k
  | kp _ _ k => cases k
theorem Kc.mono {K' : Int → Bool} {zs' : List Int} (h : Kc cs L K zs i) (hk : ∀ i, K i = true → K' i = true) (hz : ∀ i ∈ zs, i ∈ zs') : Kc cs L K' zs' i := by
  induction h with
  | st h k => exact .st (hz _ h) k
  | go _ h k ih => exact .go ih h k
  | kp _ h k m ih => exact .kp ih h (hk _ k) m
theorem clL_iff (hs : Srt L) : i ∈ clL L p ↔ nd L i ≠ none ∧ p i = true := by
  unfold clL
  rw [List.mem_map]
  constructor
  · rintro ⟨x, hx, rfl⟩
    obtain ⟨h1, h2⟩ := List.mem_filter.1 hx
    exact ⟨by rw [nd_mem hs h1]; simp, h2⟩
  · rintro ⟨hn, hp⟩
    obtain ⟨x, hx⟩ := Option.ne_none_iff_exists'.1 hn
    obtain ⟨h1, rfl⟩ := nd_some hx
    exact ⟨x, List.mem_filter.2 ⟨h1, hp⟩, rfl⟩
theorem ex_rs (cs : List Cl) (L : List Nd) (K : Int → Bool) (zs : List Int) : ∃ p q, Rs cs L K zs p q := by
  obtain ⟨p, hp⟩ := ex_kc cs L K zs
  obtain ⟨q, hq⟩ := L10.ex_rc cs L 1 (clL L p ++ clL L (fi L p))
  exact ⟨p, q, hp, hq⟩
theorem Rs.eq (h : Rs cs L K zs p q) (k : Rs cs L K zs p' q') : p = p' ∧ q = q' := by
  have e := h.a.eq k.a
  subst e
  refine ⟨rfl, ?_⟩
  funext i
  rw [Bool.eq_iff_iff, h.b i, k.b i]
theorem Rs.n1 (h : Rs cs L K zs p q) (hi : p i = true) : nd L i ≠ none := ((h.a i).1 hi).is_
theorem Rs.n2 (h : Rs cs L K zs p q) (hi : q i = true) : nd L i ≠ none := ((h.b i).1 hi).is_
theorem Rs.up (h : Rs cs L K zs p q) (hs : Srt L) (hi : p i = true) : q i = true :=
  (h.b i).2 (.st (List.mem_append_left _ ((clL_iff hs).2 ⟨h.n1 hi, hi⟩)) (h.n1 hi))
theorem Rs.go1 (h : Rs cs L K zs p q) (hi : p i = true) (hj : j ∈ hldX cs L i) (hn : nd L j ≠ none) : p j = true := (h.a j).2 (.go ((h.a i).1 hi) hj hn)
theorem Rs.go2 (h : Rs cs L K zs p q) (hi : q i = true) (hj : j ∈ hldX cs L i) (hn : nd L j ≠ none) : q j = true := (h.b j).2 (.go ((h.b i).1 hi) (by rw [outs1]; exact hj) hn)
theorem fnB_is (h : fnB L i = true) : nd L i ≠ none := by
  unfold fnB at h
  intro e
  rw [e] at h
  cases h
theorem Rs.fin (h : Rs cs L K zs p q) (hs : Srt L) (hi : fnB L i = true) : q i = true := by
  cases hp : p i with
  | true => exact h.up hs hp
  | false =>
    have hn := fnB_is hi
    refine (h.b i).2 (.st (List.mem_append_right _ ((clL_iff hs).2 ⟨hn, ?_⟩)) hn)
    unfold fi
    rw [hi, hp]; rfl
/-- What came in the fourth step was reached from what is to be finalized. -/
theorem Rs.new (h : Rs cs L K zs p q) (hs : Srt L) (hi : q i = true) : p i = true ∨ Rc cs L 1 (clL L (fi L p)) i := by
  have := (h.b i).1 hi
  clear hi
  induction this with
  | st hm hn =>
    rcases List.mem_append.1 hm with hm | hm
    · exact .inl ((clL_iff hs).1 hm).2
    · exact .inr (.st hm hn)
  | go _ hj hn ih =>
    rcases ih with ih | ih
    · exact .inl (h.go1 ih (by rw [outs1] at hj; exact hj) hn)
    · exact .inr (.go ih hj hn)
/-- Sorted lists with the same members are the same. -/
theorem srt_ext : ∀ {a b : List Int}, a.Pairwise (· < ·) → b.Pairwise (· < ·) → (∀ i, i ∈ a ↔ i ∈ b) → a = b
  | [], b, _, _, h => by
    cases b with
    | nil => rfl
    | cons y m => exact absurd ((h y).2 List.mem_cons_self) (by simp)
  | x :: l, [], _, _, h => absurd ((h x).1 List.mem_cons_self) (by simp)
  | x :: l, y :: m, ha, hb, h => by
    obtain ⟨a1, a2⟩ := List.pairwise_cons.1 ha
    obtain ⟨b1, b2⟩ := List.pairwise_cons.1 hb
    have e : x = y := by
      rcases List.mem_cons.1 ((h x).1 List.mem_cons_self) with e | e
      · exact e
      · rcases List.mem_cons.1 ((h y).2 List.mem_cons_self) with e' | e'
        · exact e'.symm
        · have := b1 x e; have := a1 y e'; omega
    subst e
    rw [srt_ext a2 b2 fun i => ?_]
    constructor
    · intro hi
      rcases List.mem_cons.1 ((h i).1 (List.mem_cons_of_mem _ hi)) with e | e
      · have := a1 i hi; omega
      · exact e
    · intro hi
      rcases List.mem_cons.1 ((h i).2 (List.mem_cons_of_mem _ hi)) with e | e
      · have := b1 i hi; omega
      · exact e
theorem cl_ext (hs : Srt L) (h : ∀ i, nd L i ≠ none → p i = q i) : clL L p = clL L q :=
  srt_ext (clL_srt hs) (clL_srt hs) fun i => by
    rw [clL_iff hs, clL_iff hs]
    constructor
    · rintro ⟨h1, h2⟩; exact ⟨h1, by rw [← h i h1]; exact h2⟩
    · rintro ⟨h1, h2⟩; exact ⟨h1, by rw [h i h1]; exact h2⟩
/-- A number more in a sorted list. -/
def ins1 (l : List Int) (i : Int) : List Int := l.take (l.countP (· < i)) ++ i :: l.drop (l.countP (· < i))
theorem ins1_mem {l : List Int} : j ∈ ins1 l i ↔ j = i ∨ j ∈ l := by
  unfold ins1
  conv => rhs; rw [← List.take_append_drop (l.countP (· < i)) l]
  simp only [List.mem_append, List.mem_cons]
  constructor
  · rintro (h | h | h)
    · exact .inr (.inl h)
    · exact .inl h
    · exact .inr (.inr h)
  · rintro (h | h | h)
    · exact .inr (.inl h)
    · exact .inl h
    · exact .inr (.inr h)
theorem ins1_srt : ∀ {l : List Int}, l.Pairwise (· < ·) → i ∉ l → (ins1 l i).Pairwise (· < ·)
  | [], _, _ => by simp [ins1]
  | x :: l, h, hi => by
    obtain ⟨h1, h2⟩ := List.pairwise_cons.1 h
    have hil : i ∉ l := fun e => hi (List.mem_cons_of_mem _ e)
    have hne : i ≠ x := fun e => hi (by rw [e]; exact List.mem_cons_self)
    by_cases hx : x < i
    · have e : ins1 (x :: l) i = x :: ins1 l i := by
        unfold ins1
        rw [List.countP_cons_of_pos (by simpa using hx)]
        rfl
      rw [e]
      refine List.pairwise_cons.2 ⟨fun y hy => ?_, ins1_srt h2 hil⟩
      rcases ins1_mem.1 hy with rfl | hy
      · exact hx
      · exact h1 y hy
    · have e0 : (x :: l).countP (· < i) = 0 := by
        rw [List.countP_eq_zero]
        intro y hy
        rcases List.mem_cons.1 hy with rfl | hy
        · simpa using hx
        · have := h1 y hy; simp; omega
      have e : ins1 (x :: l) i = i :: x :: l := by
        unfold ins1
        rw [e0]
        rfl
      rw [e]
      refine List.pairwise_cons.2 ⟨fun y hy => ?_, h⟩
      rcases List.mem_cons.1 hy with rfl | hy
      · omega
      · have := h1 y hy; omega
theorem cl_put (hs : Srt L) (hn : nd L i ≠ none) (hp : p i = false) : clL L (put p i) = ins1 (clL L p) i := by
  have hm : i ∉ clL L p := fun h => by have := ((clL_iff hs).1 h).2; rw [hp] at this; cases this
  refine srt_ext (clL_srt hs) (ins1_srt (clL_srt hs) hm) fun j => ?_
  rw [clL_iff hs, ins1_mem, clL_iff hs]
  unfold put
  constructor
  · rintro ⟨h1, h2⟩
    rcases Bool.or_eq_true_iff.1 h2 with h2 | h2
    · exact .inl (of_decide_eq_true h2)
    · exact .inr ⟨h1, h2⟩
  · rintro (rfl | ⟨h1, h2⟩)
    · exact ⟨hn, by simp⟩
    · exact ⟨h1, by rw [h2, Bool.or_true]⟩
theorem cl_pop (hs : Srt L) {l : List Int} (h : clL L p = i :: l) : nd L i ≠ none ∧ p i = true ∧ clL L (fun y => p y && !decide (y = i)) = l := by
  have hi := (clL_iff hs).1 (show i ∈ clL L p by rw [h]; exact List.mem_cons_self)
  have hsr := clL_srt (f := p) hs
  rw [h] at hsr
  obtain ⟨h1, h2⟩ := List.pairwise_cons.1 hsr
  refine ⟨hi.1, hi.2, srt_ext (clL_srt hs) h2 fun j => ?_⟩
  rw [clL_iff hs]
  constructor
  · rintro ⟨hn, hb⟩
    obtain ⟨hb1, hb2⟩ := Bool.and_eq_true_iff.1 hb
    have : j ∈ i :: l := by rw [← h]; exact (clL_iff hs).2 ⟨hn, hb1⟩
    rcases List.mem_cons.1 this with e | e
    · rw [e] at hb2; simp at hb2
    · exact e
  · intro hj
    have : j ∈ clL L p := by rw [h]; exact List.mem_cons_of_mem _ hj
    have hj' := (clL_iff hs).1 this
    refine ⟨hj'.1, ?_⟩
    rw [hj'.2]
    have := h1 j hj
    simp
    omega
end
end Go.Proofs.YtjfpjnhlnoiekaaGreat.L13
