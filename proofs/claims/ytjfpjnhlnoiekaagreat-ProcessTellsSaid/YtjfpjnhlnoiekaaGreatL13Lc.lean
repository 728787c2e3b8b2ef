/- The plain answer of reference processing, without the program: what its first loop keeps; filters of lists of names. Conditions: the names rise, the nodes can be, and lead to nodes. -/
import Derived.Test.YtjfpjnhlnoiekaaGreatL13Lb
namespace Go.Proofs.YtjfpjnhlnoiekaaGreat.L13
open Go.Proofs.YtjfpjnhlnoiekaaGreat.L9 (Nd nd Lok In64 Srt nd_some nd_none nd_mem hasB hldX aimX)
open Go.Proofs.YtjfpjnhlnoiekaaGreat.L10 (Rc IsRc outs clL fins fnB clL_srt put nq nq_put hasB_iff clL_le)
open Go.Proofs.YtjfpjnhlnoiekaaGreat.graphKeeps (Clo nd_ne)
open Go.Proofs.YtjfpjnhlnoiekaaGreat.L5 (Cl clAt isRf)
set_option linter.unusedVariables false
section
variable {cs : List Cl} {L : List Nd} {K p q q' p1 p2 : Int → Bool} {zs ws : List Int} {i : Int}
theorem cl_filter (f : Int → Bool) : (clL L p).filter f = clL L (fun i => p i && f i) := by
  unfold clL
  rw [List.filter_map, List.filter_filter]
  congr 1
  exact List.filter_congr fun x _ => Bool.and_comm _ _
theorem nq_le (h : ∀ x ∈ L, q x.id = true → q' x.id = true) : nq L q' ≤ nq L q := by
  unfold nq
  rw [← List.countP_eq_length_filter, ← List.countP_eq_length_filter]
  refine List.countP_mono_left fun x hx hp => ?_
  cases hq : q x.id with
  | false => rfl
  | true => rw [h x hx hq] at hp; cases hp
/-- What the first loop keeps: q says who is live, who were asked. -/
structure Fa (cs : List Cl) (L : List Nd) (K : Int → Bool) (zs : List Int) (q : Int → Bool) (ws : List Int) : Prop where
  s : ∀ i, q i = true → Kc cs L K zs i
  z : ∀ i ∈ zs, nd L i ≠ none → q i = true
  c : ∀ i j, q i = true → j ∈ hldX cs L i → nd L j ≠ none → q j = true
  a : ∀ i ∈ ws, q i = true ∧ (K i = false ∨ q (aimX cs L i).1 = true)
  n : ws.length + nq L (hasB ws) ≤ L.length
theorem Fa.nd_ (h : Fa cs L K zs q ws) (hi : q i = true) : nd L i ≠ none := (h.s i hi).is_
theorem Fa.first (h : IsRc cs L 1 zs q) : Fa cs L K zs q [] := by
  refine ⟨fun i hi => Rc.toKc ((h i).1 hi), fun i hi hn => (h i).2 (.st hi hn), fun i j hi hj hn => (h j).2 (.go ((h i).1 hi) (by rw [outs1]; exact hj) hn), fun i hi => (by cases hi), ?_⟩
  unfold nq
  have := List.length_filter_le (fun x : Nd => !hasB [] x.id) L
  simp only [List.length_nil]
  omega
theorem has_snoc (ws : List Int) (i : Int) : hasB (ws ++ [i]) = put (hasB ws) i := by
  funext j
  rw [Bool.eq_iff_iff, hasB_iff]
  unfold put
  rw [Bool.or_eq_true, hasB_iff, decide_eq_true_eq, List.mem_append, List.mem_singleton]
  exact or_comm
theorem Fa.one (h : Fa cs L K zs q ws) (hs : Srt L) (hi : q i = true) (hn : hasB ws i = false) : (ws ++ [i]).length + nq L (hasB (ws ++ [i])) ≤ L.length := by
  obtain ⟨x, hx⟩ := Option.ne_none_iff_exists'.1 (h.nd_ hi)
  obtain ⟨hxL, rfl⟩ := nd_some hx
  have h1 := nq_put hs hxL hn
  have h2 := h.n
  rw [has_snoc, List.length_append]
  simp only [List.length_singleton]
  omega
/-- One that is not kept is asked. -/
theorem Fa.no (h : Fa cs L K zs q ws) (hs : Srt L) (hi : q i = true) (hn : hasB ws i = false) (hk : K i = false) : Fa cs L K zs q (ws ++ [i]) := by
  refine ⟨h.s, h.z, h.c, fun j hj => ?_, h.one hs hi hn⟩
  rcases List.mem_append.1 hj with hj | hj
  · exact h.a j hj
  · rw [List.mem_singleton.1 hj]
    exact ⟨hi, .inl hk⟩
/-- One that is kept is asked. -/
theorem Fa.yes (h : Fa cs L K zs q ws) (hs : Srt L) (hi : q i = true) (hn : hasB ws i = false) (hk : K i = true) (h3 : (aimX cs L i).2 = 3) (ht : nd L (aimX cs L i).1 ≠ none) (hq : q (aimX cs L i).1 = false) (hr : IsRc cs L 1 (clL L q ++ [(aimX cs L i).1]) q') :
    Fa cs L K zs q' (ws ++ [i]) ∧ nq L q' < nq L q := by
  have hup : ∀ j, q j = true → q' j = true := fun j hj => (hr j).2 (.st (List.mem_append_left _ ((clL_iff hs).2 ⟨h.nd_ hj, hj⟩)) (h.nd_ hj))
  have ht' : q' (aimX cs L i).1 = true := (hr _).2 (.st (List.mem_append_right _ (List.mem_singleton.2 rfl)) ht)
  refine ⟨⟨fun j hj => ?_, fun j hj hn => hup j (h.z j hj hn), fun j k hj hk hn => (hr k).2 (.go ((hr j).1 hj) (by rw [outs1]; exact hk) hn), fun j hj => ?_, h.one hs hi hn⟩, ?_⟩
  · have := (hr j).1 hj
    clear hj
    induction this with
    | st hm hn =>
      rcases List.mem_append.1 hm with hm | hm
      · exact h.s _ ((clL_iff hs).1 hm).2
      · rw [List.mem_singleton.1 hm]
        exact .kp (h.s i hi) h3 hk ht
    | go _ hj hn ih => exact .go ih (by rw [outs1] at hj; exact hj) hn
  · rcases List.mem_append.1 hj with hj | hj
    · exact ⟨hup j (h.a j hj).1, (h.a j hj).2.imp_right (hup _)⟩
    · rw [List.mem_singleton.1 hj]
      exact ⟨hup i hi, .inr ht'⟩
  · obtain ⟨x, hx⟩ := Option.ne_none_iff_exists'.1 ht
    obtain ⟨hxL, hid⟩ := nd_some hx
    have h1 := nq_put hs hxL (q := q) (by rw [hid]; exact hq)
    have h2 : nq L q' ≤ nq L (put q x.id) := nq_le fun y hy hp => by
      rcases L10.put_of hp with e | e
      · rw [e, hid]; exact ht'
      · exact hup _ e
    omega
/-- All that is lost and Soft was asked: the second step is done. -/
theorem Fa.done (h : Fa cs L K zs q ws) (hp : ∀ i, q i = true → (aimX cs L i).2 = 3 → nd L (aimX cs L i).1 ≠ none → q (aimX cs L i).1 = false → hasB ws i = true) : IsKc cs L K zs q :=
  IsKc.mk h.s h.z h.c fun i hi h3 hk hn => by
    cases hq : q (aimX cs L i).1 with
    | true => rfl
    | false =>
      have h1 := (h.a i (hasB_iff.1 (hp i hi h3 hn hq))).2
      rw [hk, hq] at h1
      rcases h1 with h1 | h1 <;> cases h1
end
end Go.Proofs.YtjfpjnhlnoiekaaGreat.L13
