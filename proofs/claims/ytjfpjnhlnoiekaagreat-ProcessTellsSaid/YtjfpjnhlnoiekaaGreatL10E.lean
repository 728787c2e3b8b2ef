/- The plain answers; that the program is awake; how the laws begin; what they say, without the program. Conditions: as each part says. -/
import Derived.Test.YtjfpjnhlnoiekaaGreatL10B
import Derived.Test.YtjfpjnhlnoiekaaGreatL9B
import Derived.Test.YtjfpjnhlnoiekaaGreatL10C
import Derived.Test.YtjfpjnhlnoiekaaGreatL10D
import Derived.ShutString
/- That the program is awake. Conditions: none. -/
namespace Go.Proofs.YtjfpjnhlnoiekaaGreat.L10
open Go.ChangeShapes Go.WideShapes Go.ChangeAt Go.RowKit
open Go.Proofs.YtjfpjnhlnoiekaaGreat.L9 (Nd nd GS In64 Srt nd_some nd_none nd_mem ptr new_tz new_gr add_gs setref_gs adX adL srX srL)
open Go.Proofs.YtjfpjnhlnoiekaaGreat.L5 (Cl clAt isRf IsCls newX)
set_option linter.unusedVariables false
def aC : List Cl := [⟨4, 1, 2, false⟩, ⟨1, 1, 0, false⟩]
def aL : List Nd := [⟨1, 1, [2], [0, 0], false⟩, ⟨2, 2, [0], [], false⟩]
theorem aL_nd {i : Int} (h : nd aL i ≠ none) : i = 1 ∨ i = 2 := by
  obtain ⟨x, hx⟩ := Option.ne_none_iff_exists'.1 h
  obtain ⟨h1, rfl⟩ := nd_some hx
  simp only [aL, List.mem_cons, List.not_mem_nil, or_false] at h1
  rcases h1 with rfl | rfl
  · exact .inl rfl
  · exact .inr rfl
theorem a_low {lev : Int} (h : lev = 1 ∨ lev = 2) : IsRc aC aL lev (srcC aL lev [1]) fun i => decide (i = 1) := by
  have hs : srcC aL lev [1] = [1] := by unfold srcC; rw [if_neg (by omega)]
  rw [hs]
  refine IsRc.mk (fun i hi => ?_) (fun i hi _ => by simpa using hi) fun i j hi hj hn => ?_
  · obtain rfl := of_decide_eq_true hi
    exact .st (by simp) (by decide)
  · obtain rfl := of_decide_eq_true hi
    have : outs aC aL lev 1 = [] := by rcases h with rfl | rfl <;> rfl
    rw [this] at hj
    cases hj
theorem a_high : IsRc aC aL 3 (srcC aL 3 [1]) fun i => decide (i = 1) || decide (i = 2) := by
  have hs : srcC aL 3 [1] = [1] := by unfold srcC; rw [if_neg (by omega)]
  rw [hs]
  have h1 : Rc aC aL 3 [1] 1 := .st (by simp) (by decide)
  refine IsRc.mk (fun i hi => ?_) (fun i hi _ => ?_) fun i j hi hj hn => ?_
  · rw [Bool.or_eq_true, decide_eq_true_eq, decide_eq_true_eq] at hi
    rcases hi with rfl | rfl
    · exact h1
    · exact .go h1 (show (2 : Int) ∈ outs aC aL 3 1 by decide) (by decide)
  · rw [List.mem_singleton.1 hi]; rfl
  · rcases aL_nd hn with rfl | rfl <;> rfl
theorem a_of {f : Int → Int → Bool} (h : IsOf aC aL [1] f) : ofX f 1 = 1 ∧ ofX f 2 = 3 := by
  have e1 := (h 1).eq (a_low (.inl rfl))
  have e2 := (h 2).eq (a_low (.inr rfl))
  have e3 := (h 3).eq a_high
  unfold ofX
  rw [e1, e2, e3]
  exact ⟨rfl, rfl⟩
theorem _root_.Go.Proofs.YtjfpjnhlnoiekaaGreat.L5.IsCls.two {w : World} {g : Nat} {c d : Cl} (h : Blk w g 61 [.int .i64 c.k, .int .i64 c.r, .int .i64 c.d, .bool c.f, .int .i64 d.k, .int .i64 d.r, .int .i64 d.d, .bool d.f]) (hc : c.r ≤ 9223372036854775807) (hd : d.r ≤ 9223372036854775807) : IsCls w (some ⟨g, 0, none⟩) 2 2 [c, d] := by
  refine ⟨rfl, Nat.le_refl _, by simp [maxLen], fun _ => ⟨g, 0, rfl, fun i x hx => ?_⟩, fun x hx => ?_⟩
  · match i with
    | 0 =>
      simp at hx
      subst hx
      exact ⟨h.cell 0, h.cell 1, h.cell 2, h.cell 3⟩
    | 1 =>
      simp at hx
      subst hx
      exact ⟨h.cell 4, h.cell 5, h.cell 6, h.cell 7⟩
    | i + 2 => simp at hx
  · simp only [List.mem_cons, List.not_mem_nil, or_false] at hx
    rcases hx with rfl | rfl
    · exact hc
    · exact hd
end Go.Proofs.YtjfpjnhlnoiekaaGreat.L10
/- The plain answers: Within, Of. Conditions: at most 1000000 roots, fewer than 1000000 nodes and classes; the classes can be. -/
namespace Go.Proofs.YtjfpjnhlnoiekaaGreat.L10
open Go.ChangeShapes Go.WideShapes Go.ChangeAt Go.RowKit
open Go.Proofs.YtjfpjnhlnoiekaaGreat.L9 (Nd nd GS RG Rf Lok In64 Srt nd_some nd_none nd_mem own_rd ptr has_any hasB)
open Go.Proofs.YtjfpjnhlnoiekaaGreat.L5 (Cl clAt isRf IsCls)
set_option linter.unusedVariables false
section
variable {w : World} {z qg : Nat} {T : Nat → Prop} {a : Option Addr} {len cap : Nat} {cs : List Cl} {L : List Nd} {lev i : Int} {az : Option Addr} {n c : Nat} {zs xs : List Int}
theorem hasB_iff {l : List Int} {y : Int} : hasB l y = true ↔ y ∈ l := by
  unfold hasB
  rw [List.any_eq_true]
  constructor
  · rintro ⟨x, hx, e⟩
    rw [← of_decide_eq_true e]; exact hx
  · exact fun h => ⟨y, h, by simp⟩
theorem hasB_cl {ss : List Int} {f : Int → Bool} (hf : IsRc cs L lev ss f) (i : Int) : hasB (clL L f) i = f i := by
  rw [Bool.eq_iff_iff, hasB_iff, clL_mem hf]
theorem ol_row {b : Nat} (h : OL w b (.slice a xs.length cap) xs) (hi : ∀ i ∈ xs, In64 i) : IsRow .i64 w a xs.length cap xs := by
  have hr := own_rd h
  refine ⟨rfl, ?_, ?_, fun h0 => hr.2 h0, hi⟩
  · rcases h.2 with ⟨h', h0⟩ | ⟨g, c, cur, h', _, _, hl, _⟩
    · omega
    · injection h' with _ _ h3; omega
  · rcases h.2 with ⟨h', _⟩ | ⟨g, c, cur, h', _, _, _, hm, _⟩
    · injection h' with _ _ h3; rw [h3]; exact Nat.zero_le _
    · injection h' with _ _ h3; rw [h3]; exact hm
theorem clL_in {f : Int → Bool} (h : ∀ x ∈ L, In64 x.id) : ∀ i ∈ clL L f, In64 i := by
  intro i hi
  unfold clL at hi
  obtain ⟨x, hx, rfl⟩ := List.mem_map.1 hi
  exact h x (List.mem_filter.1 hx).1
theorem has_ol {W : World} {b : Nat} (h : OL W b (.slice a xs.length cap) xs) (hi : ∀ i ∈ xs, In64 i) (hl : xs.length ≤ 1000000) (y : Int) :
    Calls Tryz.prog 34 #[.slice a xs.length cap, .int .i64 y] W fun e w' => e = .returned (.bool (hasB xs y)) ∧ Grow W w' :=
  (has_any (ol_row h hi) y hl).mono fun e w' ⟨h1, m, h2⟩ => ⟨h1, by rw [h2]; exact (Chg.refl _ _).drewN m⟩
end
end Go.Proofs.YtjfpjnhlnoiekaaGreat.L10
/- How the laws begin: a world's graphs, and what may be asked of them. Conditions: none. -/
namespace Go.Proofs.YtjfpjnhlnoiekaaGreat.L10
open Go.ChangeShapes Go.WideShapes Go.ChangeAt Go.RowKit
open Go.Proofs.YtjfpjnhlnoiekaaGreat.L9 (Nd nd GS RG Rf Lok In64 Srt nd_some nd_none nd_mem own_rd ptr Bo newX_rt)
open Go.Proofs.YtjfpjnhlnoiekaaGreat.L5 (Cl clAt isRf IsCls newX)
set_option linter.unusedVariables false
theorem row_rd {w : World} {a : Option Addr} {n c : Nat} {zs : List Int} (h : IsRow .i64 w a n c zs) : L1.Rd w a n zs ∧ ∀ i ∈ zs, In64 i := ⟨⟨h.1, h.2.2.2.1⟩, h.2.2.2.2⟩
section
variable {w W W' : World} {b z p q : Nat} {S T : Nat → Prop} {ca na ra a1 : Option Addr} {cl cc nl nc rl rc n1 c1 : Nat} {cs : List Cl} {L : List Nd} {zs : List Int} {u : Wo}
theorem in64_nat {k : Nat} (h : k ≤ 1000000) : In64 (k : Int) := (show (Lit.int .i64 _).wf = true by simp [Lit.wf, IntKind.min, IntKind.max, IntKind.signed, IntKind.bits]; omega)
end
end Go.Proofs.YtjfpjnhlnoiekaaGreat.L10
/- What the laws say of what is reached, without the program. Conditions: none. -/
namespace Go.Proofs.YtjfpjnhlnoiekaaGreat.L10
open Go.Proofs.YtjfpjnhlnoiekaaGreat.L9 (Nd nd GS RG Rf Lok In64 Srt nd_some nd_none nd_mem hldX aimX hasB hld kd)
open Go.Proofs.YtjfpjnhlnoiekaaGreat.L5 (Cl clAt isRf)
set_option linter.unusedVariables false
section
variable {cs : List Cl} {L : List Nd} {lev lev' i j : Int} {zs ys : List Int} {f g : Int → Bool} {F G : Int → Int → Bool}
/-- Grows. -/
theorem grows_lev (hf : IsRc cs L lev (srcW L lev zs) f) (hg : IsRc cs L lev' (srcW L lev' zs) g) (hl : lev ≤ lev') (hi : f i = true) : g i = true := by
  by_cases h : lev < 1
  · rw [srcW_neg h] at hf
    exact absurd ((hf i).1 hi) rc_nil
  · rw [srcW_pos (by omega)] at hf hg
    exact (hg i).2 (((hf i).1 hi).more hl fun _ h => h)
theorem grows_root (hf : IsOf cs L zs F) (hg : IsOf cs L (zs ++ ys) G) (i : Int) : ofX F i ≠ 0 → ofX G i ≠ 0 ∧ ofX G i ≤ ofX F i :=
  ofX_le hf hg fun lev h => (hg lev i).2 (((hf lev i).1 h).more (Int.le_refl _) fun _ h => List.mem_append_left _ h)
theorem grows_held (hf : IsOf cs L zs F) (hj : j ∈ hldX cs L i) (hn : nd L j ≠ none) : ofX F i ≠ 0 → ofX F j ≠ 0 ∧ ofX F j ≤ ofX F i :=
  ofX_le hf hf fun lev h => (hf lev j).2 (.go ((hf lev i).1 h) (List.mem_append_left _ hj) hn)
theorem hld_mem {x : Nd} (hx : nd L i = some x) (hj : j ∈ hldX cs L i) : j ∈ x.refs ∧ j ≠ 0 := by
  simp only [hldX, hx, hld] at hj
  obtain ⟨h1, h2⟩ := List.mem_filter.1 hj
  refine ⟨?_, by simpa using h2⟩
  split at h1
  · exact List.mem_of_mem_drop h1
  · exact h1
theorem hld_none (hx : nd L i = none) : hldX cs L i = [] := by simp [hldX, hx]
/-- Aims. -/
theorem aim_mem {x : Nd} (hx : nd L i = some x) (h0 : (aimX cs L i).1 ≠ 0) : (aimX cs L i).1 ∈ x.refs := by
  simp only [aimX, hx] at h0 ⊢
  split
  · rename_i h
    rw [if_pos h] at h0
    dsimp only at h0 ⊢
    cases hr : x.refs with
    | nil => rw [hr] at h0; exact absurd rfl h0
    | cons a l => simp
  · rename_i h
    rw [if_neg h] at h0
    exact absurd rfl h0
theorem aim_kind (i : Int) : (aimX cs L i).2 = 0 ∨ (aimX cs L i).2 = 3 ∨ (aimX cs L i).2 = 4 ∨ (aimX cs L i).2 = 5 := by
  unfold aimX
  split
  · exact .inl rfl
  · split
    · rename_i h
      have : _ := of_decide_eq_true (show decide _ = true from h)
      exact .inr this
    · exact .inl rfl
theorem aims (hf : IsOf cs L zs F) {l : Int} (h1 : 1 ≤ l) (h5 : l ≤ 5) (hk : ldB (aimX cs L i).2 l = true) (hn : nd L (aimX cs L i).1 ≠ none) (hi : ofX F i ≠ 0 ∧ ofX F i ≤ l) : ofX F (aimX cs L i).1 ≠ 0 ∧ ofX F (aimX cs L i).1 ≤ l := by
  rw [ofX_is hf h1 h5] at hi ⊢
  refine (hf l _).2 (.go ((hf l i).1 hi) ?_ hn)
  unfold outs
  rw [if_pos hk]
  exact List.mem_append_right _ (List.mem_singleton.2 rfl)
theorem plain_one (hf : IsOf cs L zs F) (hk : ∀ i, nd L i ≠ none → (aimX cs L i).2 = 0) (hn : fins L = []) (i : Int) : ofX F i = 1 ∨ ofX F i = 0 := by
  have key : ∀ lev : Int, ∀ i, Rc cs L lev (srcC L lev zs) i → Rc cs L 1 (srcC L 1 zs) i := fun lev i h => by
    induction h with
    | st h k =>
      refine .st ?_ k
      unfold srcC at h ⊢
      rw [hn, List.append_nil] at h
      split at h <;> exact h
    | go h k m ih =>
      refine .go ih ?_ m
      rename_i a b
      unfold outs at k ⊢
      have e : ∀ l, ldB (aimX cs L a).2 l = false := fun l => by
        rw [hk a h.is_]; rfl
      rw [e] at k ⊢
      exact k
  have h2 : ∀ lev : Int, F lev i = true → F 1 i = true := fun lev h => (hf 1 i).2 (key lev i ((hf lev i).1 h))
  have e2 := h2 2
  have e3 := h2 3
  have e4 := h2 4
  have e5 := h2 5
  unfold ofX
  cases h1 : F 1 i <;> simp_all
/-- Roots. -/
theorem root_one (hf : IsOf cs L zs F) (hi : i ∈ zs) (hn : nd L i ≠ none) : ofX F i = 1 := by
  have : F 1 i = true := (hf 1 i).2 (.st (by unfold srcC; rw [if_neg (by decide)]; exact hi) hn)
  unfold ofX
  rw [if_pos this]
theorem same_roots (h : ∀ i, i ∈ zs ↔ i ∈ ys) (hf : IsRc cs L lev (srcW L lev zs) f) : IsRc cs L lev (srcW L lev ys) f := by
  have key : ∀ us vs : List Int, (∀ i, i ∈ us → i ∈ vs) → ∀ i, Rc cs L lev (srcW L lev us) i → Rc cs L lev (srcW L lev vs) i := fun us vs hs i hr => hr.mono (fun j hj hn => .st (by
    unfold srcW at hj ⊢
    split at hj
    · cases hj
    · rename_i h1
      rw [if_neg h1]
      exact srcC_mono (Int.le_refl _) hs j hj) hn) fun _ _ h => h
  intro i
  rw [hf i]
  exact ⟨key zs ys (fun i => (h i).1) i, key ys zs (fun i => (h i).2) i⟩
theorem none_low (hl : lev ≤ 3) (hf : IsRc cs L lev (srcW L lev []) f) : clL L f = [] := by
  have e : srcW L lev [] = [] := by
    unfold srcW srcC
    split
    · rfl
    · rw [if_neg (by omega)]
  rw [e] at hf
  refine List.eq_nil_iff_forall_not_mem.2 fun i hi => ?_
  exact rc_nil ((hf i).1 ((clL_mem hf).1 hi))
/-- Closes. -/
theorem closes (h1 : 1 ≤ lev) (hf : IsRc cs L lev (srcW L lev zs) f) : IsRc cs L lev (srcW L lev (clL L f)) f := by
  have hm := fun i => clL_mem (i := i) hf
  rw [srcW_pos h1] at hf ⊢
  refine IsRc.mk (fun i hi => .st ?_ ((hf i).1 hi).is_) (fun i hi hn => ?_) fun i j hi hj hn => (hf j).2 (.go ((hf i).1 hi) hj hn)
  · unfold srcC
    split
    · exact List.mem_append_left _ ((hm i).2 hi)
    · exact (hm i).2 hi
  · unfold srcC at hi
    split at hi
    · rename_i h4
      rcases List.mem_append.1 hi with hi | hi
      · exact (hm i).1 hi
      · refine (hf i).2 (.st ?_ hn)
        unfold srcC
        rw [if_pos h4]
        exact List.mem_append_right _ hi
    · exact (hm i).1 hi
theorem led_by (hs : Srt L) (hf : IsRc cs L lev (srcW L lev zs) f) (hi : f i = true) : i ∈ zs ∨ (∃ x, nd L i = some x ∧ x.fin = true) ∨ ∃ j, f j = true ∧ ((aimX cs L j).1 = i ∨ i ∈ hldX cs L j) := by
  have hr := (hf i).1 hi
  cases hr with
  | st h k =>
    unfold srcW at h
    split at h
    · cases h
    · unfold srcC at h
      split at h
      · rcases List.mem_append.1 h with h | h
        · exact .inl h
        · exact .inr (.inl ((fins_mem hs).1 h))
      · exact .inl h
  | go h k m =>
    rename_i j
    refine .inr (.inr ⟨j, (hf j).2 h, ?_⟩)
    unfold outs at k
    rcases List.mem_append.1 k with k | k
    · exact .inr k
    · split at k
      · exact .inl (List.mem_singleton.1 k).symm
      · cases k
/-- Apart. -/
theorem outs_refs {x : Nd} (hx : nd L i = some x) (hj : j ∈ outs cs L lev i) (hn : j ≠ 0) : j ∈ x.refs := by
  unfold outs at hj
  rcases List.mem_append.1 hj with hj | hj
  · exact (hld_mem hx hj).1
  · split at hj
    · obtain rfl := List.mem_singleton.1 hj
      exact aim_mem hx hn
    · cases hj
theorem apart (hs : Srt L) (ho : ∀ x ∈ L, 1 ≤ x.id) (hf : IsOf cs L zs F) {q : Int → Bool} (h1 : ∀ i ∈ zs, q i = true) (h2 : ∀ x ∈ L, x.fin = true → q x.id = true) (h3 : ∀ x ∈ L, q x.id = true → ∀ r ∈ x.refs, nd L r ≠ none → q r = true) (hi : q i = false) : ofX F i = 0 := by
  rw [ofX_no hf]
  cases h : F 5 i with
  | false => rfl
  | true =>
    exfalso
    have hr := (hf 5 i).1 h
    have key : ∀ i, Rc cs L 5 (srcC L 5 zs) i → q i = true := fun i hr => by
      induction hr with
      | st h k =>
        unfold srcC at h
        rw [if_pos (by decide)] at h
        rcases List.mem_append.1 h with h | h
        · exact h1 _ h
        · obtain ⟨x, hx, hxf⟩ := (fins_mem hs).1 h
          obtain ⟨hm, rfl⟩ := nd_some hx
          exact h2 x hm hxf
      | go h k m ih =>
        obtain ⟨x, hx⟩ := Option.ne_none_iff_exists'.1 h.is_
        obtain ⟨hm, rfl⟩ := nd_some hx
        refine h3 x hm ih _ (outs_refs hx k fun e => ?_) m
        obtain ⟨y, hy⟩ := Option.ne_none_iff_exists'.1 m
        obtain ⟨hy1, hy2⟩ := nd_some hy
        have := ho y hy1
        omega
    rw [key i hr] at hi
    cases hi
end
end Go.Proofs.YtjfpjnhlnoiekaaGreat.L10
