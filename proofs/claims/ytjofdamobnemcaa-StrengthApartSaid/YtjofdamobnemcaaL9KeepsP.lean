/- GraphKeeps: references lead to nodes that are there; what stays of a node. Conditions: none. -/
import Derived.Test.YtjofdamobnemcaaL9Start
import Derived.Test.YtjofdamobnemcaaL9Tn
namespace Go.Proofs.Ytjofdamobnemcaa.graphKeeps
open Go.ChangeShapes Go.WideShapes Go.ChangeAt Go.RowKit Go.Proofs.Ytjofdamobnemcaa.L9
open Go.Proofs.Ytjofdamobnemcaa.L5 (Cl clAt IsCls newX)
set_option linter.unusedVariables false

/-- Every reference leads to a node that is there, or nowhere. -/
def Clo (L : List Nd) : Prop := ∀ x ∈ L, ∀ t ∈ x.refs, t = 0 ∨ ∃ y ∈ L, y.id = t
theorem nd_ne {L : List Nd} {t : Int} : nd L t ≠ none ↔ ∃ y ∈ L, y.id = t := by
  constructor
  · intro h
    obtain ⟨y, hy⟩ := Option.ne_none_iff_exists'.1 h
    exact ⟨y, nd_some hy⟩
  · rintro ⟨y, hy, e⟩ h
    exact nd_none h y hy e
theorem Clo.ins {L : List Nd} (h : Clo L) {x : Nd} (hx : ∀ t ∈ x.refs, t = 0) : Clo (ins L x) := by
  intro y hy t ht
  rcases mem_ins.1 hy with rfl | hy
  · exact .inl (hx t ht)
  · rcases h y hy t ht with h | ⟨q, hq, e⟩
    · exact .inl h
    · exact .inr ⟨q, mem_ins.2 (.inr hq), e⟩
theorem Clo.upd {L : List Nd} (h : Clo L) (i : Int) (g : Nd → Nd) (hg : ∀ x, (g x).id = x.id) (hr : ∀ y ∈ L, y.id = i → ∀ t ∈ (g y).refs, t ∈ y.refs ∨ t = 0 ∨ ∃ q ∈ L, q.id = t) : Clo (updN L i g) := by
  have hm : ∀ t, (∃ q ∈ L, q.id = t) → ∃ q ∈ updN L i g, q.id = t := by
    rintro t ⟨q, hq, e⟩
    refine ⟨if q.id = i then g q else q, List.mem_map.2 ⟨q, hq, rfl⟩, ?_⟩
    split
    · rw [hg]; exact e
    · exact e
  intro y hy t ht
  obtain ⟨y0, hy0, rfl⟩ := List.mem_map.1 hy
  by_cases e : y0.id = i
  · rw [if_pos e] at ht
    rcases hr y0 hy0 e t ht with h1 | h1 | h1
    · rcases h y0 hy0 t h1 with h2 | h2
      · exact .inl h2
      · exact .inr (hm t h2)
    · exact .inl h1
    · exact .inr (hm t h1)
  · rw [if_neg e] at ht
    rcases h y0 hy0 t ht with h2 | h2
    · exact .inl h2
    · exact .inr (hm t h2)
theorem Clo.op {L : List Nd} (h : Clo L) (cs : List Cl) (o : Oq) : Clo (opL cs L o) := by
  unfold opL
  split
  · unfold adL
    split
    · refine h.ins fun t ht => ?_
      have : t ∈ zeros (L5.shR (clAt cs o.b) o.c).toNat := ht
      exact List.eq_of_mem_replicate this
    · exact h
  · split
    · unfold srL
      split
      · rename_i h0
        refine h.upd _ _ (fun _ => rfl) fun y hy e t ht => ?_
        rcases List.mem_or_eq_of_mem_set ht with h1 | h1
        · exact .inl h1
        · right
          unfold srX at h0
          have hyn : nd L o.a ≠ none := nd_ne.2 ⟨y, hy, e⟩
          cases hn : nd L o.a with
          | none => exact absurd hn hyn
          | some q =>
            rw [hn] at h0
            simp only at h0
            by_cases h2 : o.b < 0 ∨ (q.refs.length : Int) ≤ o.b
            · rw [if_pos h2] at h0; cases h0
            · rw [if_neg h2] at h0
              by_cases h3 : o.c ≠ 0 ∧ nd L o.c = none
              · rw [if_pos h3] at h0; cases h0
              · rw [h1]
                by_cases h4 : o.c = 0
                · exact .inl h4
                · exact .inr (nd_ne.1 fun h5 => h3 ⟨h4, h5⟩)
      · exact h
    · split
      · unfold snL
        split
        · exact h.upd _ _ (fun _ => rfl) fun y hy e t ht => .inl ht
        · exact h
      · split
        · unfold dnL
          split
          · exact h.upd _ _ (fun _ => rfl) fun y hy e t ht => .inl ht
          · exact h
        · exact h
theorem clo_pl (cs : List Cl) (l : List Oq) : ∀ L : List Nd, Clo L → Clo (plL cs L l) := by
  induction l with
  | nil => exact fun L h => h
  | cons o l ih => exact fun L h => ih _ (h.op cs o)
/-- Cleared, but for what is among some. -/
def fz (zs : List Int) (t : Int) : Option Nat := if hasB zs t then some 0 else none
theorem c1_yes {zs : List Int} {t : Int} (h : hasB zs t = true) : c1 (fz zs) t = t := by unfold c1 fz; rw [if_pos h]; rfl
theorem c1_no {zs : List Int} {t : Int} (h : hasB zs t = false) : c1 (fz zs) t = 0 := by unfold c1 fz; rw [if_neg (by rw [h]; decide)]
theorem clK_skip {f : Int → Option Nat} (l : List Int) (k : Nat) (hk : k < l.length) (hq : c1 f (l.getD k 0) = l.getD k 0) : clK f l (k + 1) = clK f l k := by
  rw [clK_step l k hk, hq]
  have hl := clK_len (f := f) l k
  have hg := clK_get (f := f) l k
  rw [← hg, List.getD_eq_getElem?_getD, List.getElem?_eq_getElem (by omega)]
  exact List.set_getElem_self _
/-- Who stays, as it was. -/
theorem kp_at {L : List Nd} {zs : List Int} (hs : Srt L) (hc : Clo L) {x' : Nd} (hx : x' ∈ kpL L zs) : ∃ x, nd L x.id = some x ∧ hasB zs x.id = true ∧ x' = { x with refs := x.refs.map (c1 (fz zs)) } := by
  unfold kpL at hx
  obtain ⟨x, hxf, rfl⟩ := List.mem_map.1 hx
  obtain ⟨hx, hk⟩ := List.mem_filter.1 hxf
  refine ⟨x, nd_mem hs hx, hk, ?_⟩
  congr 1
  refine List.map_congr_left fun t ht => ?_
  cases hb : hasB zs t with
  | false => rw [c1_no hb]; simp
  | true =>
    rw [c1_yes hb]
    rcases hc x hx t ht with h | h
    · subst h; simp
    · have := nd_ne.2 h
      rw [Bool.true_and, if_pos (Option.isSome_iff_ne_none.2 this)]
theorem kp_len (L : List Nd) (zs : List Int) : (kpL L zs).length + kpN L zs = L.length := by
  unfold kpL kpN
  rw [List.length_map]
  induction L with
  | nil => rfl
  | cons a l ih =>
    simp only [List.filter_cons]
    cases hasB zs a.id <;> simp <;> omega
theorem kpN_all {L : List Nd} {zs : List Int} (h : ∀ x ∈ L, hasB zs x.id = true) : kpN L zs = 0 := by
  unfold kpN
  rw [List.length_eq_zero_iff, List.filter_eq_nil_iff]
  intro x hx
  simp [h x hx]
theorem has_ids {L : List Nd} {x : Nd} (hx : x ∈ L) : hasB (L.map Nd.id) x.id = true := by
  unfold hasB
  rw [List.any_eq_true]
  exact ⟨x.id, List.mem_map.2 ⟨x, hx, rfl⟩, by simp⟩
theorem kp_nil (L : List Nd) : kpL L [] = [] ∧ kpN L [] = L.length := by
  have h : kpL L [] = [] := by simp [kpL, hasB]
  have := kp_len L []
  rw [h] at this
  exact ⟨h, by simpa using this⟩
theorem own_row {W : World} {base : Nat} {a : Option Addr} {n c : Nat} {xs : List Int} (h : W.ownsRow base 3 1 (.slice a n c) n (ints xs)) (hx : ∀ x ∈ xs, In64 x) : IsRow .i64 W a n c xs := by
  have hl : xs.length = n := by have := h.1; rw [ints_length] at this; omega
  have hc : n ≤ c ∧ c ≤ maxLen := by
    rcases h.2 with ⟨e, h0⟩ | ⟨g, cap, cur, e, _, _, h1, h2, _⟩
    · injection e with e1 e2 e3
      subst e2 e3
      exact ⟨Nat.le_refl _, by simp [maxLen]⟩
    · injection e with e1 e2 e3
      subst e3
      exact ⟨h1, h2⟩
  refine ⟨hl, hc.1, hc.2, fun hn => ?_, hx⟩
  obtain ⟨x, e, hr⟩ := (own_rd h).2 hn
  exact ⟨x, e, hr⟩
end Go.Proofs.Ytjofdamobnemcaa.graphKeeps
