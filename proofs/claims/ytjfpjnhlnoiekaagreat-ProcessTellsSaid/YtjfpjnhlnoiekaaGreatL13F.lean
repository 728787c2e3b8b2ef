/- Reference processing, without the program: what is cleared, what stays, what a second run finds. Conditions: the names rise, the nodes can be, and lead to nodes. -/
import Derived.Test.YtjfpjnhlnoiekaaGreatL13Q
namespace Go.Proofs.YtjfpjnhlnoiekaaGreat.L13
open Go.Proofs.YtjfpjnhlnoiekaaGreat.L9 (Nd nd Srt In64 Lok hldX aimX nd_some nd_none nd_mem hld kd hasB kpL kpN)
open Go.Proofs.YtjfpjnhlnoiekaaGreat.graphKeeps (Clo nd_ne kpN_all)
open Go.Proofs.YtjfpjnhlnoiekaaGreat.L10 (Rc IsRc outs ldB clL fins fnB srcC clL_srt rc_nil put hasB_iff aim_kind)
open Go.Proofs.YtjfpjnhlnoiekaaGreat.L5 (Cl clAt isRf)
set_option linter.unusedVariables false

def cB (cs : List Cl) (L : List Nd) (p q : Int → Bool) (i : Int) : Bool := e1 cs L p i || (e2 cs L p q i || e3 cs L q i)
/-- A node that stays. -/
def aft (cs : List Cl) (L : List Nd) (p q : Int → Bool) (x : Nd) : Nd := { x with refs := bif cB cs L p q x.id then x.refs.set 0 0 else x.refs, fin := x.fin && !fi L p x.id }
/-- The graph behind Apply. -/
abbrev gAp (cs : List Cl) (L : List Nd) (p q : Int → Bool) : List Nd := apL cs L (clL L q) (ces cs L p q) (clL L (fi L p))
section
variable {cs : List Cl} {L : List Nd} {K p q r : Int → Bool} {zs : List Int} {i j : Int} {x : Nd}
theorem los_iff : los cs L q i = true ↔ q i = true ∧ nd L (aimX cs L i).1 ≠ none ∧ q (aimX cs L i).1 = false := by
  unfold los
  rw [Bool.and_eq_true, Bool.and_eq_true, isN_ne]
  simp
theorem sw_iff {k : Int} : sw k = true ↔ k = 3 ∨ k = 4 := by
  unfold sw
  simp
theorem e1_iff : e1 cs L p i = true ↔ (p i = true ∧ nd L (aimX cs L i).1 ≠ none ∧ p (aimX cs L i).1 = false) ∧ ((aimX cs L i).2 = 3 ∨ (aimX cs L i).2 = 4) := by
  unfold e1
  rw [Bool.and_eq_true, los_iff, sw_iff]
theorem e3_iff : e3 cs L q i = true ↔ (q i = true ∧ nd L (aimX cs L i).1 ≠ none ∧ q (aimX cs L i).1 = false) ∧ (aimX cs L i).2 = 5 := by
  unfold e3
  rw [Bool.and_eq_true, los_iff, decide_eq_true_eq]
theorem e2_iff : e2 cs L p q i = true ↔ (q i = true ∧ nd L (aimX cs L i).1 ≠ none ∧ q (aimX cs L i).1 = false) ∧ e1 cs L p i = false ∧ ((aimX cs L i).2 = 3 ∨ (aimX cs L i).2 = 4) := by
  unfold e2
  rw [Bool.and_eq_true, los_iff, Bool.and_eq_true, sw_iff]
  simp
/-- What is cleared. -/
theorem Rs.c_los (h : Rs cs L K zs p q) (hs : Srt L) (hi : cB cs L p q i = true) : q i = true ∧ nd L (aimX cs L i).1 ≠ none ∧ p (aimX cs L i).1 = false ∧ ((aimX cs L i).2 = 3 ∨ (aimX cs L i).2 = 4 ∨ (aimX cs L i).2 = 5) ∧ ((aimX cs L i).2 = 5 → q (aimX cs L i).1 = false) := by
  have hup : q (aimX cs L i).1 = false → p (aimX cs L i).1 = false := fun e => by
    cases hp : p (aimX cs L i).1 with
    | false => rfl
    | true => rw [h.up hs hp] at e; cases e
  unfold cB at hi
  rw [Bool.or_eq_true, Bool.or_eq_true] at hi
  rcases hi with hi | hi | hi
  · obtain ⟨⟨h1, h2, h3⟩, h4⟩ := e1_iff.1 hi
    exact ⟨h.up hs h1, h2, h3, by rcases h4 with h4 | h4 <;> simp [h4], fun h5 => by rcases h4 with h4 | h4 <;> omega⟩
  · obtain ⟨⟨h1, h2, h3⟩, -, h4⟩ := e2_iff.1 hi
    exact ⟨h1, h2, hup h3, by rcases h4 with h4 | h4 <;> simp [h4], fun _ => h3⟩
  · obtain ⟨⟨h1, h2, h3⟩, h4⟩ := e3_iff.1 hi
    exact ⟨h1, h2, hup h3, .inr (.inr h4), fun _ => h3⟩
/-- What is lost in the end is cleared. -/
theorem c_of (h1 : q i = true) (h2 : nd L (aimX cs L i).1 ≠ none) (h3 : q (aimX cs L i).1 = false) (h4 : (aimX cs L i).2 = 3 ∨ (aimX cs L i).2 = 4 ∨ (aimX cs L i).2 = 5) : cB cs L p q i = true := by
  unfold cB
  rw [Bool.or_eq_true, Bool.or_eq_true]
  rcases h4 with h4 | h4 | h4
  · cases he : e1 cs L p i with
    | true => exact .inl rfl
    | false => exact .inr (.inl (e2_iff.2 ⟨⟨h1, h2, h3⟩, he, .inl h4⟩))
  · cases he : e1 cs L p i with
    | true => exact .inl rfl
    | false => exact .inr (.inl (e2_iff.2 ⟨⟨h1, h2, h3⟩, he, .inr h4⟩))
  · exact .inr (.inr (e3_iff.2 ⟨⟨h1, h2, h3⟩, h4⟩))
theorem Rs.ces_mem (h : Rs cs L K zs p q) (hs : Srt L) : i ∈ ces cs L p q ↔ cB cs L p q i = true := by
  unfold ces cB
  rw [List.mem_append, List.mem_append, clL_iff hs, clL_iff hs, clL_iff hs, Bool.or_eq_true, Bool.or_eq_true]
  constructor
  · rintro ((⟨-, e⟩ | ⟨-, e⟩) | ⟨-, e⟩)
    · exact .inl e
    · exact .inr (.inl e)
    · exact .inr (.inr e)
  · rintro (e | e | e)
    · exact .inl (.inl ⟨h.n1 (e1_iff.1 e).1.1, e⟩)
    · exact .inl (.inr ⟨h.n2 (e2_iff.1 e).1.1, e⟩)
    · exact .inr ⟨h.n2 (e3_iff.1 e).1.1, e⟩
theorem Rs.has_ces (h : Rs cs L K zs p q) (hs : Srt L) (i : Int) : hasB (ces cs L p q) i = cB cs L p q i := by
  rw [Bool.eq_iff_iff, hasB_iff, h.ces_mem hs]
theorem srt_nd {l : List Int} (h : l.Pairwise (· < ·)) : l.Nodup := h.imp fun h => by omega
theorem ces_nodup (hs : Srt L) : (ces cs L p q).Nodup := by
  unfold ces
  rw [List.nodup_append, List.nodup_append]
  refine ⟨⟨srt_nd (clL_srt hs), srt_nd (clL_srt hs), fun a ha b hb e => ?_⟩, srt_nd (clL_srt hs), fun a ha b hb e => ?_⟩
  · subst e
    have h1 := ((clL_iff hs).1 ha).2
    have h2 := (e2_iff.1 ((clL_iff hs).1 hb).2).2.1
    rw [h1] at h2
    cases h2
  · subst e
    have h3 := (e3_iff.1 ((clL_iff hs).1 hb).2).2
    rcases List.mem_append.1 ha with ha | ha
    · rcases (e1_iff.1 ((clL_iff hs).1 ha).2).2 with h | h <;> omega
    · rcases (e2_iff.1 ((clL_iff hs).1 ha).2).2.2 with h | h <;> omega
theorem has_cl (hs : Srt L) {f : Int → Bool} (hf : ∀ i, f i = true → nd L i ≠ none) (i : Int) : hasB (clL L f) i = f i := by
  rw [Bool.eq_iff_iff, hasB_iff, clL_iff hs]
  exact ⟨fun h => h.2, fun h => ⟨hf i h, h⟩⟩
theorem fi_nd (h : fi L p i = true) : nd L i ≠ none := by
  unfold fi at h
  exact fnB_is (Bool.and_eq_true_iff.1 h).1
theorem isR_ref (hn : nd L i = some x) (hr : isR cs x = true) : aimX cs L i = (x.refs.getD 0 0, kd (clAt cs x.c)) := aim_yes hn hr
/-- A reference of what stays goes to what stays, if it was not cleared. -/
theorem Rs.refs (h : Rs cs L K zs p q) (ho : Lok cs L) (hc : Clo L) (hx : x ∈ L) (hq : q x.id = true) : ∀ t ∈ (aft cs L p q x).refs, t = 0 ∨ q t = true := by
  intro t ht
  have hn := nd_mem ho.1 hx
  have key : ∀ t ∈ hldX cs L x.id, t = 0 ∨ q t = true := fun t ht => by
    obtain ⟨h1, h2⟩ := L10.hld_mem hn ht
    rcases hc x hx t h1 with e | e
    · exact .inl e
    · exact .inr (h.go2 hq ht (nd_ne.2 e))
  have hh : ∀ rs : List Int, (∀ t ∈ rs, t ∈ x.refs) → (isR cs x = false ∨ ∀ t ∈ rs, t = 0 ∨ t ∈ x.refs.drop 1) → ∀ t ∈ rs, t = 0 ∨ q t = true := fun rs h1 h2 t ht => by
    by_cases h0 : t = 0
    · exact .inl h0
    · refine key t ?_
      unfold hldX
      rw [hn]
      dsimp only
      unfold hld
      rw [List.mem_filter]
      rcases h2 with h2 | h2
      · unfold isR at h2
        rw [h2, if_neg (by simp)]
        exact ⟨h1 t ht, by simpa using h0⟩
      · rcases h2 t ht with e | e
        · exact absurd e h0
        · split
          · exact ⟨e, by simpa using h0⟩
          · exact ⟨List.mem_of_mem_drop e, by simpa using h0⟩
  have hrf : (aft cs L p q x).refs = bif cB cs L p q x.id then x.refs.set 0 0 else x.refs := rfl
  rw [hrf] at ht
  cases hcb : cB cs L p q x.id with
  | true =>
    rw [hcb] at ht
    have ht' : t ∈ x.refs.set 0 0 := ht
    cases hxr : x.refs with
    | nil => rw [hxr] at ht'; cases ht'
    | cons a l =>
      rw [hxr] at ht'
      rcases List.mem_cons.1 ht' with e | e
      · exact .inl e
      · refine hh l (fun t ht => by rw [hxr]; exact List.mem_cons_of_mem _ ht) (.inr fun t ht => .inr ?_) t e
        rw [hxr]
        exact ht
  | false =>
    rw [hcb] at ht
    have ht' : t ∈ x.refs := ht
    cases hr : isR cs x with
    | false => exact hh x.refs (fun t h => h) (.inl hr) t ht'
    | true =>
      cases hxr : x.refs with
      | nil => rw [hxr] at ht'; cases ht'
      | cons a l =>
        rw [hxr] at ht'
        rcases List.mem_cons.1 ht' with e | e
        · have hai := aim_yes hn hr
          have ha : (aimX cs L x.id).1 = t := by rw [hai, hxr, e]; rfl
          have hk : (aimX cs L x.id).2 = 3 ∨ (aimX cs L x.id).2 = 4 ∨ (aimX cs L x.id).2 = 5 := by rw [hai]; exact isR_kd hr
          rcases hc x hx t (by rw [hxr, e]; simp) with e0 | e0
          · exact .inl e0
          · right
            cases hqt : q t with
            | true => rfl
            | false =>
              have := c_of (p := p) hq (by rw [ha]; exact nd_ne.2 e0) (by rw [ha]; exact hqt) hk
              rw [hcb] at this
              cases this
        · refine hh l (fun t ht => by rw [hxr]; exact List.mem_cons_of_mem _ ht) (.inr fun t ht => .inr ?_) t e
          rw [hxr]
          exact ht
/-- The graph behind Apply, node by node. -/
theorem Rs.ap (h : Rs cs L K zs p q) (ho : Lok cs L) (hc : Clo L) : gAp cs L p q = (L.filter fun x => q x.id).map (aft cs L p q) := by
  have hq := has_cl (f := q) ho.1 fun i hi => h.n2 hi
  have hf := has_cl (f := fi L p) ho.1 fun i hi => fi_nd hi
  have hce := h.has_ces ho.1
  have h1 : dns (srs cs L (ces cs L p q)) (clL L (fi L p)) = L.map (aft cs L p q) := by
    rw [srs_map ho, dns_map (clr1_lok ho _).1, List.map_map]
    refine List.map_congr_left fun x hx => ?_
    show fin1 _ (clr1 cs _ x) = _
    unfold fin1 clr1 aft
    dsimp only
    rw [hce, hf]
    cases hcb : cB cs L p q x.id with
    | false => simp
    | true =>
      have hr : isR cs x = true := by
        have hk := (h.c_los ho.1 hcb).2.2.2.1
        cases hr : isR cs x with
        | true => rfl
        | false =>
          rw [aim_no (nd_mem ho.1 hx) hr] at hk
          simp at hk
      simp [hr]
  unfold gAp apL
  rw [h1]
  unfold kpL
  rw [List.filter_map, List.map_map]
  have hfl : (L.filter ((fun x => hasB (clL L q) x.id) ∘ aft cs L p q)) = L.filter fun x => q x.id := List.filter_congr fun x _ => hq x.id
  rw [hfl]
  refine List.map_congr_left fun x hx => ?_
  obtain ⟨hxL, hqx⟩ := List.mem_filter.1 hx
  have hall := h.refs ho hc hxL hqx
  show ({ aft cs L p q x with refs := (aft cs L p q x).refs.map fun t => if hasB (clL L q) t && (nd (L.map (aft cs L p q)) t).isSome then t else 0 } : Nd) = aft cs L p q x
  have hrefs : ((aft cs L p q x).refs.map fun t => if hasB (clL L q) t && (nd (L.map (aft cs L p q)) t).isSome then t else 0) = (aft cs L p q x).refs := by
    refine (List.map_congr_left (g := id) fun t ht => ?_).trans (List.map_id _)
    rcases hall t ht with e | e
    · rw [e]; simp
    · have h2 : (nd (L.map (aft cs L p q)) t).isSome = true := by
        rw [L9.nd_of_ids (M := L) (by rw [List.map_map]; exact List.map_congr_left fun x _ => rfl)]
        exact Option.isSome_iff_ne_none.2 (h.n2 e)
      rw [hq, e, h2]
      rfl
  rw [hrefs]
theorem apN_eq (cs : List Cl) (L : List Nd) (lv cl fn : List Int) (h : ∀ x : Nd, hasB lv x.id = hasB lv x.id) : apN cs L lv cl fn + (apL cs L lv cl fn).length = (dns (srs cs L cl) fn).length := by
  unfold apN apL
  have := graphKeeps.kp_len (dns (srs cs L cl) fn) lv
  omega
theorem Rs.ap_nd (h : Rs cs L K zs p q) (ho : Lok cs L) (hc : Clo L) (i : Int) : nd (gAp cs L p q) i = if q i then (nd L i).map (aft cs L p q) else none := by
  rw [h.ap ho hc]
  unfold nd
  rw [List.find?_map]
  have key : ∀ M : List Nd, (M.filter fun x => q x.id).find? ((fun x => x.id == i) ∘ aft cs L p q) = if q i then M.find? (fun x => x.id == i) else none := by
    intro M
    induction M with
    | nil => simp
    | cons a M ih =>
      rw [List.filter_cons]
      by_cases ha : a.id = i
      · cases hqa : q a.id with
        | true =>
          have hqi : q i = true := by rw [← ha]; exact hqa
          rw [if_pos rfl, List.find?_cons_of_pos (by simp [aft, ha]), if_pos hqi, List.find?_cons_of_pos (by simp [ha])]
        | false =>
          have hqi : q i = false := by rw [← ha]; exact hqa
          rw [if_neg (by simp), ih, hqi]
          simp
      · have h2 : ∀ l : List Nd, (a :: l).find? (fun x => x.id == i) = l.find? (fun x => x.id == i) := fun l => List.find?_cons_of_neg (by simp [ha])
        rw [h2]
        cases hqa : q a.id with
        | true => rw [if_pos rfl, List.find?_cons_of_neg (by simp [aft, ha]), ih]
        | false => rw [if_neg (by simp), ih]
  rw [key]
  split <;> simp
theorem Rs.ap_ids (h : Rs cs L K zs p q) (ho : Lok cs L) (hc : Clo L) : (gAp cs L p q).map Nd.id = clL L q := by
  rw [h.ap ho hc, List.map_map]
  unfold clL
  exact List.map_congr_left fun x _ => rfl
theorem Rs.ap_n (h : Rs cs L K zs p q) (ho : Lok cs L) (hc : Clo L) : apN cs L (clL L q) (ces cs L p q) (clL L (fi L p)) + (clL L q).length = L.length := by
  have h1 := apN_eq cs L (clL L q) (ces cs L p q) (clL L (fi L p)) fun _ => rfl
  have h2 := congrArg List.length (h.ap_ids ho hc)
  rw [List.length_map] at h2
  have h3 : (dns (srs cs L (ces cs L p q)) (clL L (fi L p))).length = L.length := by
    rw [dns_map (by rw [srs_map ho]; exact (clr1_lok ho _).1), List.length_map, srs_map ho, List.length_map]
  have h4 : (gAp cs L p q).length = (apL cs L (clL L q) (ces cs L p q) (clL L (fi L p))).length := rfl
  omega
theorem Rs.ap_no (h : Rs cs L K zs p q) (ho : Lok cs L) (hc : Clo L) : nd (gAp cs L p q) i ≠ none ↔ q i = true := by
  rw [h.ap_nd ho hc]
  cases hq : q i with
  | false => simp
  | true =>
    have := h.n2 hq
    simp [this]
theorem Rs.ap_hld (h : Rs cs L K zs p q) (ho : Lok cs L) (hc : Clo L) (hq : q i = true) : hldX cs (gAp cs L p q) i = hldX cs L i := by
  unfold hldX
  rw [h.ap_nd ho hc, if_pos hq]
  cases hn : nd L i with
  | none => rfl
  | some x =>
    show hld (isRf (kd (clAt cs x.c))) (aft cs L p q x).refs = hld (isRf (kd (clAt cs x.c))) x.refs
    have hrf : (aft cs L p q x).refs = bif cB cs L p q x.id then x.refs.set 0 0 else x.refs := rfl
    rw [hrf]
    cases hcb : cB cs L p q x.id with
    | false => rfl
    | true =>
      obtain ⟨hx, rfl⟩ := nd_some hn
      have hk := (h.c_los ho.1 hcb).2.2.2.1
      have hr : isR cs x = true := by
        cases hr : isR cs x with
        | true => rfl
        | false =>
          rw [aim_no hn hr] at hk
          simp at hk
      unfold isR at hr
      rw [hr]
      show hld true (x.refs.set 0 0) = hld true x.refs
      unfold hld
      simp only [if_true]
      cases x.refs <;> rfl
theorem Rs.ap_aim (h : Rs cs L K zs p q) (ho : Lok cs L) (hc : Clo L) (hq : q i = true) : aimX cs (gAp cs L p q) i = if cB cs L p q i then (0, (aimX cs L i).2) else aimX cs L i := by
  unfold aimX
  rw [h.ap_nd ho hc, if_pos hq]
  cases hn : nd L i with
  | none => exact absurd hn (h.n2 hq)
  | some x =>
    obtain ⟨hx, rfl⟩ := nd_some hn
    show (if isRf (kd (clAt cs x.c)) = true then ((aft cs L p q x).refs.getD 0 0, kd (clAt cs x.c)) else (0, 0)) = _
    have hrf : (aft cs L p q x).refs = bif cB cs L p q x.id then x.refs.set 0 0 else x.refs := rfl
    rw [hrf]
    cases hcb : cB cs L p q x.id with
    | false => simp
    | true =>
      simp only [cond_true, if_true]
      cases hr : isRf (kd (clAt cs x.c)) with
      | false => simp
      | true =>
        simp only [if_true]
        cases x.refs <;> simp
theorem Rs.ap_fin (h : Rs cs L K zs p q) (ho : Lok cs L) (hc : Clo L) (i : Int) : fnB (gAp cs L p q) i = (p i && fnB L i) := by
  unfold fnB
  rw [h.ap_nd ho hc]
  cases hq : q i with
  | false =>
    have hp : p i = false := by
      cases hp : p i with
      | false => rfl
      | true => rw [h.up ho.1 hp] at hq; cases hq
    rw [if_neg (by simp), hp]
    rfl
  | true =>
    rw [if_pos rfl]
    cases hn : nd L i with
    | none => exact absurd hn (h.n2 hq)
    | some x =>
      obtain ⟨hx, rfl⟩ := nd_some hn
      show (x.fin && !fi L p x.id) = (p x.id && x.fin)
      unfold fi
      rw [L10.fnB_nd ho.1 hx]
      cases x.fin <;> cases p x.id <;> rfl
theorem Rs.ap_srt (h : Rs cs L K zs p q) (ho : Lok cs L) (hc : Clo L) : Srt (gAp cs L p q) := by
  have h1 := clL_srt (f := q) ho.1
  rw [← h.ap_ids ho hc] at h1
  exact List.pairwise_map.1 h1
theorem Rs.ap_clo (h : Rs cs L K zs p q) (ho : Lok cs L) (hc : Clo L) : Clo (gAp cs L p q) := by
  intro y hy t ht
  have hy2 := hy
  rw [h.ap ho hc] at hy2
  obtain ⟨x, hx, rfl⟩ := List.mem_map.1 hy2
  obtain ⟨hxL, hqx⟩ := List.mem_filter.1 hx
  rcases h.refs ho hc hxL hqx t ht with e | e
  · exact .inl e
  · exact .inr (nd_ne.1 ((h.ap_no ho hc).2 e))
/-- Once more, with more that is kept and more roots: all that lived lives. -/
theorem Rs.again {K' p' q' : Int → Bool} {zs' : List Int} (h : Rs cs L K zs p q) (ho : Lok cs L) (hc : Clo L) (h' : Rs cs (gAp cs L p q) K' zs' p' q') (hk : ∀ i, K i = true → K' i = true) (hz : ∀ i ∈ zs, i ∈ zs') (hi : p i = true) : p' i = true := by
  have := (h.a i).1 hi
  clear hi
  induction this with
  | st hm hn =>
    rename_i i
    have hp : p i = true := (h.a i).2 (.st hm hn)
    exact (h'.a i).2 (.st (hz i hm) ((h.ap_no ho hc).2 (h.up ho.1 hp)))
  | go hki hj hn ih =>
    rename_i i j
    have hp : p i = true := (h.a i).2 hki
    have hpj : p j = true := (h.a j).2 (.go hki hj hn)
    exact h'.go1 ih (by rw [h.ap_hld ho hc (h.up ho.1 hp)]; exact hj) ((h.ap_no ho hc).2 (h.up ho.1 hpj))
  | kp hki h3 hkk hm ih =>
    rename_i i
    have hp : p i = true := (h.a i).2 hki
    have hpj : p (aimX cs L i).1 = true := (h.a _).2 (.kp hki h3 hkk hm)
    have hcf : cB cs L p q i = false := by
      cases hcb : cB cs L p q i with
      | false => rfl
      | true => have := (h.c_los ho.1 hcb).2.2.1; rw [hpj] at this; cases this
    have hai : aimX cs (gAp cs L p q) i = aimX cs L i := by rw [h.ap_aim ho hc (h.up ho.1 hp), if_neg (by rw [hcf]; simp)]
    have := (h'.a i).1 ih
    have h5 := Kc.kp this (by rw [hai]; exact h3) (hk i hkk) (by rw [hai]; exact (h.ap_no ho hc).2 (h.up ho.1 hpj))
    rw [hai] at h5
    exact (h'.a _).2 h5
theorem Rs.again_fin {K' p' q' : Int → Bool} {zs' : List Int} (h : Rs cs L K zs p q) (ho : Lok cs L) (hc : Clo L) (h' : Rs cs (gAp cs L p q) K' zs' p' q') (hk : ∀ i, K i = true → K' i = true) (hz : ∀ i ∈ zs, i ∈ zs') : clL (gAp cs L p q) (fi (gAp cs L p q) p') = [] := by
  rw [List.eq_nil_iff_forall_not_mem]
  intro i hi
  have hf := ((clL_iff (h.ap_srt ho hc)).1 hi).2
  unfold fi at hf
  rw [h.ap_fin ho hc] at hf
  obtain ⟨h1, h2⟩ := Bool.and_eq_true_iff.1 hf
  have := h.again ho hc h' hk hz (Bool.and_eq_true_iff.1 h1).1
  rw [this] at h2
  cases h2
/-- What is reached without anything that is kept is as it was. -/
theorem Rs.again_p {p' q' : Int → Bool} (h : Rs cs L (fun _ => false) zs p q) (ho : Lok cs L) (hc : Clo L) (h' : Rs cs (gAp cs L p q) (fun _ => false) zs p' q') : p' = p := by
  funext i
  rw [Bool.eq_iff_iff]
  constructor
  · intro hi
    have := (h'.a i).1 hi
    clear hi
    induction this with
    | st hm hn => exact (h.a _).2 (.st hm (h.n2 ((h.ap_no ho hc).1 hn)))
    | go hki hj hn ih =>
      refine h.go1 ih ?_ (h.n2 ((h.ap_no ho hc).1 hn))
      rw [← h.ap_hld ho hc (h.up ho.1 ih)]
      exact hj
    | kp _ _ hkk => cases hkk
  · exact fun hi => h.again ho hc h' (fun _ h => h) (fun _ h => h) hi
/-- Where nothing is to be finalized all that lives lived. -/
theorem Rs.same (h : Rs cs L K zs p q) (hf : clL L (fi L p) = []) (hs : Srt L) : q = p := by
  funext i
  rw [Bool.eq_iff_iff]
  constructor
  · intro hi
    rcases h.new hs hi with e | e
    · exact e
    · rw [hf] at e
      exact absurd e rc_nil
  · exact h.up hs
/-- All nodes as roots. -/
theorem Rs.full (h : Rs cs L K zs p q) (hz : ∀ x ∈ L, x.id ∈ zs) : (∀ i, p i = isN L i) ∧ (∀ i, q i = isN L i → True) := by
  refine ⟨fun i => ?_, fun _ _ => trivial⟩
  rw [Bool.eq_iff_iff, isN_ne]
  constructor
  · exact fun hi => h.n1 hi
  · intro hn
    obtain ⟨x, hx⟩ := Option.ne_none_iff_exists'.1 hn
    obtain ⟨hxL, rfl⟩ := nd_some hx
    exact (h.a _).2 (.st (hz x hxL) hn)
theorem Rs.full_ces (h : Rs cs L K zs p q) (hs : Srt L) (hz : ∀ x ∈ L, x.id ∈ zs) : ces cs L p q = [] := by
  have hp := (h.full hz).1
  rw [List.eq_nil_iff_forall_not_mem]
  intro i hi
  obtain ⟨-, h2, h3, -⟩ := h.c_los hs ((h.ces_mem hs).1 hi)
  rw [hp, isN_ne.2 h2] at h3
  cases h3
theorem Rs.full_cl (h : Rs cs L K zs p q) (hs : Srt L) (hz : ∀ x ∈ L, x.id ∈ zs) : ∀ x ∈ L, hasB (clL L q) x.id = true := by
  intro x hx
  rw [has_cl hs fun i hi => h.n2 hi]
  have hp := (h.full hz).1
  refine h.up hs ?_
  rw [hp, isN_ne, nd_mem hs hx]
  simp
theorem Rs.full_n (h : Rs cs L K zs p q) (hs : Srt L) (hz : ∀ x ∈ L, x.id ∈ zs) : apN cs L (clL L q) (ces cs L p q) (clL L (fi L p)) = 0 := by
  have hf : clL L (fi L p) = [] := by
    have hp := (h.full hz).1
    rw [List.eq_nil_iff_forall_not_mem]
    intro i hi
    have hf := ((clL_iff hs).1 hi)
    unfold fi at hf
    rw [hp, isN_ne.2 hf.1] at hf
    simp at hf
  rw [h.full_ces hs hz, hf]
  unfold apN
  exact kpN_all (h.full_cl hs hz)
end
end Go.Proofs.YtjfpjnhlnoiekaaGreat.L13
