/- What Reach does, by whatever function it is passed whose calls are known; and without one. Conditions: at most 1000000 roots; each place leads to at most 1000000 numbers. -/
import Derived.Test.YtaddomgjjemglaaDoorL14R
import Derived.Deep.RegionHeld3
import Derived.Laws.EntriesVeiled
namespace Go.Proofs.YtaddomgjjemglaaDoor.L14
open Go.ChangeShapes Go.WideShapes Go.ChangeAt Go.RowKit
open Go.Proofs.YtaddomgjjemglaaDoor.L3 (Ms Tab ms_set ms_len ms_has ms_next ms_count ms_new clamp ptr exB setI cnt cnt_le upd nx nx_cases)
set_option linter.unusedVariables false

theorem least {P : Nat → Prop} : ∀ k, P k → ∃ j, P j ∧ ∀ i, P i → j ≤ i := by
  intro k
  induction k using Nat.strongRecOn with
  | _ k ih =>
    intro hk
    by_cases h : ∃ i, i < k ∧ P i
    · obtain ⟨i, hi, hp⟩ := h
      exact ih i hi hp
    · exact ⟨k, hk, fun i hi => Nat.le_of_not_lt fun hlt => h ⟨i, hlt, hi⟩⟩
/-- A goto back, by a measure that need not be read off the memory. -/
theorem wp_scope_ghost {P : Program} {a : Act} {w : World} {Q : Exit → Act → World → Prop} {c rest : Code} (l : Nat) (R : Act → World → Nat → Prop) (hf : findLabel c l = some rest)
    (first : c.wp P (Exit.jump l (fun a' w' => ∃ k, R a' w' k) Q) a w)
    (pass : ∀ a w k, R a w k → rest.wp P (Exit.jump l (fun a' w' => ∃ k', k' < k ∧ R a' w' k') Q) a w) : (Code.scope c).wp P Q a w := by
  have hm : ∀ a w, ∃ m, (∃ k, R a w k) → R a w m ∧ ∀ i, R a w i → m ≤ i := fun a w => by
    by_cases h : ∃ k, R a w k
    · obtain ⟨k, hk⟩ := h
      obtain ⟨j, h1, h2⟩ := least k hk
      exact ⟨j, fun _ => ⟨h1, h2⟩⟩
    · exact ⟨0, fun h' => absurd h' h⟩
  refine wp_scope_jumps l (fun a w => ∃ k, R a w k) (fun a w => Classical.choose (hm a w)) hf first fun a w hJ => ?_
  have h1 := (Classical.choose_spec (hm a w)) hJ
  refine Code.wp_mono ?_ (pass a w _ h1.1)
  intro e a' w' hq
  cases e with
  | goto l' =>
    obtain ⟨e, k', hk, hr⟩ := hq
    exact ⟨e, ⟨k', hr⟩, Nat.lt_of_le_of_lt ((Classical.choose_spec (hm a' w') ⟨k', hr⟩).2 k' hr) hk⟩
  | _ => exact hq
theorem fn_nil (w : World) : (binOp .eql 29 .nilFunc .nilFunc).run Tryd.prog w = .ok (.bool true) w := by kernel_rfl
theorem fn_some (fid : Nat) (caps : Array Value) (w : World) : (binOp .eql 29 (.func (.func fid) #[] caps) .nilFunc).run Tryd.prog w = .ok (.bool false) w := by kernel_rfl
theorem max_one {room : Int} {r : Nat} (h : max room 1 = (r : Int)) (ts : Array TypeId) (t : TypeId) (W : World) : (Builtin.max_ ts t #[.int .i64 room, .int .i64 1]).run Tryd.prog W = .ok (.int .i64 r) W := by
  rw [run_max_int2]
  congr 2
  split <;> omega
section
variable {w W W' : World} {C : Nat → Prop} {E : Nat → List Int} {Inv : (Nat → Bool) → World → Prop} {m p g n r fid k c : Nat} {lb : Array Value} {fv v v' : Value} {s s' : St} {A S : Nat → Bool} {a : Option Addr} {l xs zs : List Int} {j rn : Nat} {places room : Int}
theorem Sta.c1 (h : Sta w W C Inv m p g n r fv v s A) : W.cell? ⟨m, 1, none⟩ = some fv := h.ma.mb.blk.cell 1
theorem Sta.take (h : Sta w W C Inv m p g n r fv v s A) (hE : Ed w n E Inv C fid lb) (he : s.ws = l ++ [(j : Int)]) (W' : World) (d : Grow W W') :
    Calls Tryd.prog 29 #[ptr m] W' fun e W2 => e = .returned (.int .i64 j) ∧ ∃ v', Sta w W2 C Inv m p g n r fv v' ⟨s.S, l, s.lo⟩ A := by
  have h1 := h.grow hE d
  refine (take_any h1.ma he).mono ?_
  rintro e W2 ⟨rfl, v', _, hm, hc⟩
  exact ⟨rfl, v', hm, hE.st _ _ _ h1.iv (hc.mono fun i _ e => by rw [e]; exact h.ma.mb.hm), h1.ch.step hc fun i _ e => .inr (by rw [e]; exact h.ma.mb.hm)⟩
/-- What holds at the label. -/
structure Lm (w W : World) (C : Nat → Prop) (E : Nat → List Int) (Inv : (Nat → Bool) → World → Prop) (zs : List Int) (m p g n r : Nat) (fv v : Value) (s : St) (A : Nat → Bool) (rn : Nat) : Prop where
  sta : Sta w W C Inv m p g n r fv v s A
  gd : Gd n r E zs A (fun j => A j = true) s
  rt : ∀ x ∈ zs, exB n x = true → s.S x.toNat = true
  bd : rn + pt n s ≤ 4 * n
  rl : rn = 0 ∨ r < cnt s.S n
/-- What Reach answers. -/
def Reached (w : World) (C : Nat → Prop) (Inv : (Nat → Bool) → World → Prop) (n r : Nat) (S : Nat → Bool) (e : Ending) (W : World) : Prop :=
  ∃ p g rn : Nat, e = .returned (.tuple #[ptr p, .int .i64 (rn : Int)]) ∧ Ms W p g n S ∧ w.heap.size ≤ p ∧ w.heap.size ≤ g ∧ (rn = 0 ∨ r < cnt S n) ∧ Inv S W ∧ Chg C w W
theorem cnt_sub {S T : Nat → Bool} (h : ∀ j, S j = true → T j = true) (n : Nat) : cnt S n ≤ cnt T n := by
  induction n with
  | zero => exact Nat.le_refl _
  | succ n ih =>
    simp only [cnt]
    have := h n
    cases hs : S n with
    | false => simp; omega
    | true => rw [this hs]; simp; omega
theorem Lm.done (h : Lm w W C E Inv zs m p g n r fv v s A rn) (hw : s.ws = []) (hl : s.lo = false) (hS : ∀ j, S j = true ↔ Rch n E zs j) :
    Reached w C Inv n r S (.returned (.tuple #[ptr p, .int .i64 (rn : Int)])) W := by
  obtain ⟨h1, h2⟩ := h.gd.done hw hl h.rt
  have e : s.S = S := rch_eq h1 hS
  subst e
  refine ⟨p, g, rn, rfl, h.sta.ma.mb.ms, h.sta.ma.mb.hp, h.sta.ma.mb.hg, h.rl, h2 ▸ h.sta.iv, h.sta.ch.mono fun i hi e => e.resolve_right (by omega)⟩
set_option maxRecDepth 100000 in
set_option maxHeartbeats 2000000 in
theorem reach_any (hE : Ed w n E Inv C fid lb) (ht : Tab w) (hz : L1.Rd w a k zs) (hk : k ≤ 1000000) (hi : Inv (fun _ => false) w) (hS : ∀ j, S j = true ↔ Rch n E zs j) (hn : clamp places = n) (hr : max room 1 = (r : Int)) :
    Calls Tryd.prog 12 #[.int .i64 places, .int .i64 room, .func (.func fid) #[] lb, .slice a k c] w (Reached w C Inv n r S) := by
  have eg := hE.eg
  have qf := fn_some fid lb
  have hmx := max_one hr
  have HE := hide hE
  have HT := hide ht
  have HZ := hide hz
  have HK := hide hk
  have HI := hide hi
  have HS := hide hS
  have HN := hide hn
  clear hE ht hz hk hi hS hn hr
  go_enter Tryd.func12, Tryd.ntmps12
  go_wp2_with fail
  refine wp_scope_ghost 0 (fun a' W' mu => ∃ (m p g rn : Nat) (v' : Value) (s' : St) (A' : Nat → Bool), Lm w W' C E Inv zs m p g n r (.func (.func fid) #[] lb) v' s' A' rn ∧ pt n s' = mu ∧ ∃ u9 u12 u13 u14 u15 u16 u17 u18 u19 u20 u21 u22 u23 u24 u25 u26 u27 u28 u29 u30 u31 u32 u33 u34 u35 u36 u37 u38 : Value, a' = { tmps := #[.int .i64 places, .int .i64 room, .func (.func fid) #[] lb, .slice a k c, undef, undef, undef, undef, .pointer none, u9, ptr m, .int .i64 rn, u12, u13, u14, u15, u16, u17, u18, u19, u20, u21, u22, u23, u24, u25, u26, u27, u28, u29, u30, u31, u32, u33, u34, u35, u36, u37, u38], defers := [] }) rfl ?_ ?_
  · go_wp2_with fail
    refine (ms_new places _).mono ?_
    rintro e w1 ⟨rfl, hms, d1⟩
    rw [HN.out] at hms
    generalize hp : w.heap.size + 1 = p at *
    obtain ⟨g, hg⟩ : ∃ g, g = w.heap.size := ⟨_, rfl⟩
    rw [← hg] at hms
    have gB := Grow.box w1 (.cells #[ptr p, .func (.func fid) #[] lb, .slice none 0 0, .int .i64 r, .bool false] 46)
    have hm0 : Mk (w1.alloc (.cells #[ptr p, .func (.func fid) #[] lb, .slice none 0 0, .int .i64 r, .bool false] 46)) w.heap.size w1.heap.size p g n r (.func (.func fid) #[] lb) (.slice none 0 0) ⟨fun _ => false, [], false⟩ :=
      ⟨⟨Blk.new w1 _ [ptr p, .func (.func fid) #[] lb, .slice none 0 0, .int .i64 r, .bool false], hms.grow gB, d1.size, by omega, by omega, by have := hms.plt; omega, by have := hms.glt; omega⟩, ol_nil _ _, Nat.zero_le _⟩
    have hch : Chg (fun k => C k ∨ w.heap.size ≤ k) w (w1.alloc (.cells #[ptr p, .func (.func fid) #[] lb, .slice none 0 0, .int .i64 r, .bool false] 46)) := (d1.trans gB).mono fun _ _ e => e.elim
    have HM := hide hm0
    have HCH := hide hch
    have HG := hide (d1.trans gB)
    have HRD := hide (HZ.out.grow HG.out)
    have HSZ := hide (And.intro hp hg)
    clear hms d1 gB hm0 hch hp hg
    go_wp2_with fail
    generalize w1.alloc (.cells #[ptr p, .func (.func fid) #[] lb, .slice none 0 0, .int .i64 r, .bool false] 46) = w2 at *
    have hm1 : w.heap.size ≤ w1.heap.size := HM.out.mb.hm
    generalize w1.heap.size = m at *
    refine (mark_any HM.out HRD.out (fun h0 x e => ?_) HK.out HCH.out.size).mono ?_
    · subst e
      have := HZ.out.lt h0
      have := HSZ.out
      exact ⟨by omega, by omega, fun e => by cases e⟩
    rintro e w3 ⟨rfl, v1, hm3, d3⟩
    obtain ⟨s1, hs1⟩ : ∃ s1, puts n r ⟨fun _ => false, [], false⟩ zs = s1 := ⟨_, rfl⟩
    have hpt : pt n s1 ≤ 4 * n := by
      rw [← hs1]
      refine Nat.le_trans (puts_pt zs (Nat.zero_le _)) ?_
      unfold pt
      simp
      omega
    have hlm : Lm w w3 C E Inv zs m p g n r (.func (.func fid) #[] lb) v1 s1 (fun _ => false) 0 :=
      ⟨⟨hs1 ▸ hm3, HE.out.st _ _ _ HI.out ((HG.out.mono fun _ _ e => e.elim).step d3 fun i _ e => e), HCH.out.step d3 fun i _ e => .inr e⟩, hs1 ▸ Gd.roots n r E zs, fun x hx he => hs1 ▸ puts_has zs x hx he, by omega, .inl rfl⟩
    obtain ⟨rn, hrn⟩ : ∃ rn, 0 = rn := ⟨_, rfl⟩
    rw [hrn] at hlm
    have HRN := hide hrn
    clear hm1 HM HRD HCH HG hs1 hm3 d3 hpt HI hrn
    go_wp2_with fail
    rw [show Value.int .i64 0 = Value.int .i64 (rn : Int) from by rw [← HRN.out]; rfl]
    clear HRN HSZ
    go_step3
    obtain ⟨Q, hQ⟩ : ∃ Q, s1.ws.length = Q := ⟨_, rfl⟩
    have c2 := hlm.sta.ma.mb.blk.cell 2
    obtain ⟨va, vc, hva⟩ := own_len hlm.sta.ma.ol
    rw [hQ] at hva
    subst hva
    have hn4 := hlm.sta.ma.mb.ms.most
    rcases Nat.eq_zero_or_pos Q with h0 | hpos
    · subst h0
      have hws : s1.ws = [] := List.eq_nil_of_length_eq_zero hQ
      have q1 : decide (((0 : Nat) : Int) > 0) = false := by decide
      have c4 := hlm.sta.ma.mb.blk.cell 4
      cases hlo : s1.lo with
      | false =>
        have HD := hide (hlm.done hws hlo HS.out)
        have c0 := hlm.sta.ma.mb.blk.cell 0
        rw [hlo] at c4
        clear hlm hws hlo hQ hn4
        go_wp2_with fail
        simp only [Exit.jump]
        go_returns
        exact HD.out
      | true =>
        rw [hlo] at c4
        have HLM := hide hlm
        have HLO := hide hlo
        have hw1 : IntKind.i64.wrap ((rn : Int) + 1) = ((rn + 1 : Nat) : Int) := (IntWalk.i64_in _ (by have := hlm.bd; omega)).trans (by omega)
        obtain ⟨rn1, hrn⟩ : ∃ rn1, rn + 1 = rn1 := ⟨_, rfl⟩
        rw [hrn] at hw1
        have HRN := hide hrn
        clear hlm hws hlo hQ hn4 hrn
        go_wp2_with fail
        refine (rescan_any HE.out HT.out HLM.out.sta HLM.out.gd HLO.out).mono ?_
        rintro e W2 ⟨rfl, v2, s2, A2, h2, hg2, hpt2, hsb2⟩
        have HN2 := hide (show Lm w W2 C E Inv zs m p g n r (.func (.func fid) #[] lb) v2 s2 A2 rn1 from
          ⟨h2, hg2, fun x hx he => hsb2 _ (HLM.out.rt x hx he), by have := HLM.out.bd; have := HRN.out; omega, .inr (Nat.lt_of_lt_of_le (HLM.out.gd.lr HLO.out) (cnt_sub hsb2 n))⟩)
        have HPT := hide hpt2
        clear h2 hg2 hpt2 hsb2 c2 c4
        go_wp2_with fail
        go_step3
        (exact ⟨rfl, _, m, p, g, rn1, v2, s2, A2, HN2.out, rfl, _, _, _, _, _, _, _, _, _, _, _, _, _, _, _, _, _, _, _, _, _, _, _, _, _, _, _, _, rfl⟩)
    · obtain ⟨l, x, hws⟩ : ∃ l x, s1.ws = l ++ [x] := by
        rcases List.eq_nil_or_concat s1.ws with e | ⟨l, x, e⟩
        · rw [e] at hQ; simp at hQ; omega
        · exact ⟨l, x, by rw [e, List.concat_eq_append]⟩
      have hx := hlm.gd.wn x (by rw [hws]; exact List.mem_append_right _ (List.mem_singleton.2 rfl))
      obtain ⟨k1, rfl, hk1⟩ := L3.exB_nat hx.1
      have q1 : decide ((Q : Int) > 0) = true := decide_eq_true (by omega)
      have q2 : decide (0 < Q) = true := decide_eq_true hpos
      have c1 := hlm.sta.c1
      have HLM := hide hlm
      have HTK := hide (fun W' d => hlm.sta.take HE.out hws W' d)
      have HWS := hide hws
      have HK1 := hide hk1
      clear hlm hws hx hk1 hQ hn4
      go_wp2_with fail
      go_region_held3 (fun W => W.cell? ⟨m, 1, none⟩ = some (.func (.func fid) #[] lb)) (first | exact c1 | exact h4.c1 | exact h3.c1 | exact h2.c1 | go_keep)
        (first
          | (go_at_call 29; refine (HTK.out _ (by (repeat (first | exact Chg.refl _ _ | refine Chg.drew ?_)))).mono ?_; rintro e W2 ⟨rfl, v2, h2⟩)
          | (go_at_call 28; refine hmk.mono ?_; rintro e W4 ⟨rfl, v4, h4⟩)
          | (refine (h2.ask HE.out HK1.out).mono ?_; rintro e W3 ⟨a3, k3, rfl, h3, hmk⟩))
      all_goals (
        have htk := HLM.out.gd.take HWS.out
        have HN2 := hide (show Lm w W4 C E Inv zs m p g n r (.func (.func fid) #[] lb) v4 (puts n r ⟨s1.S, l, s1.lo⟩ (E k1)) (upd (fun _ => false) k1 true) rn from
          ⟨h4, htk.2.2, fun x hx he => puts_sub _ _ (HLM.out.rt x hx he), by have := HLM.out.bd; have := take_pt (n := n) (r := r) HWS.out HLM.out.gd.wl (E k1); omega, HLM.out.rl.imp id fun h => Nat.lt_of_lt_of_le h (cnt_sub (fun j hj => puts_sub _ _ hj) n)⟩)
        have HPT := hide (take_pt (n := n) (r := r) HWS.out HLM.out.gd.wl (E k1))
        clear h2 h3 h4 hmk htk c1 c2
        go_wp2_with fail
        go_step3
        (exact ⟨rfl, _, m, p, g, rn, v4, _, _, HN2.out, rfl, _, _, _, _, _, _, _, _, _, _, _, _, _, _, _, _, _, _, _, _, _, _, _, _, _, _, _, _, rfl⟩))
  · rintro a' W mu ⟨m, p, g, rn, v1, s1, A1, hlm, hmu, u9, u12, u13, u14, u15, u16, u17, u18, u19, u20, u21, u22, u23, u24, u25, u26, u27, u28, u29, u30, u31, u32, u33, u34, u35, u36, u37, u38, rfl⟩
    obtain ⟨Q, hQ⟩ : ∃ Q, s1.ws.length = Q := ⟨_, rfl⟩
    have c2 := hlm.sta.ma.mb.blk.cell 2
    obtain ⟨va, vc, hva⟩ := own_len hlm.sta.ma.ol
    rw [hQ] at hva
    subst hva
    have hn4 := hlm.sta.ma.mb.ms.most
    rcases Nat.eq_zero_or_pos Q with h0 | hpos
    · subst h0
      have hws : s1.ws = [] := List.eq_nil_of_length_eq_zero hQ
      have q1 : decide (((0 : Nat) : Int) > 0) = false := by decide
      have c4 := hlm.sta.ma.mb.blk.cell 4
      cases hlo : s1.lo with
      | false =>
        have HD := hide (hlm.done hws hlo HS.out)
        have c0 := hlm.sta.ma.mb.blk.cell 0
        rw [hlo] at c4
        clear hlm hws hlo hQ hn4
        go_wp2_with fail
        simp only [Exit.jump]
        go_returns
        exact HD.out
      | true =>
        rw [hlo] at c4
        have HLM := hide hlm
        have HLO := hide hlo
        have hw1 : IntKind.i64.wrap ((rn : Int) + 1) = ((rn + 1 : Nat) : Int) := (IntWalk.i64_in _ (by have := hlm.bd; omega)).trans (by omega)
        obtain ⟨rn1, hrn⟩ : ∃ rn1, rn + 1 = rn1 := ⟨_, rfl⟩
        rw [hrn] at hw1
        have HRN := hide hrn
        clear hlm hws hlo hQ hn4 hrn
        go_wp2_with fail
        refine (rescan_any HE.out HT.out HLM.out.sta HLM.out.gd HLO.out).mono ?_
        rintro e W2 ⟨rfl, v2, s2, A2, h2, hg2, hpt2, hsb2⟩
        have HN2 := hide (show Lm w W2 C E Inv zs m p g n r (.func (.func fid) #[] lb) v2 s2 A2 rn1 from
          ⟨h2, hg2, fun x hx he => hsb2 _ (HLM.out.rt x hx he), by have := HLM.out.bd; have := HRN.out; omega, .inr (Nat.lt_of_lt_of_le (HLM.out.gd.lr HLO.out) (cnt_sub hsb2 n))⟩)
        have HPT := hide hpt2
        clear h2 hg2 hpt2 hsb2 c2 c4
        go_wp2_with fail
        go_step3
        (exact ⟨rfl, _, hmu ▸ HPT.out, m, p, g, rn1, v2, s2, A2, HN2.out, rfl, _, _, _, _, _, _, _, _, _, _, _, _, _, _, _, _, _, _, _, _, _, _, _, _, _, _, _, _, rfl⟩)
    · obtain ⟨l, x, hws⟩ : ∃ l x, s1.ws = l ++ [x] := by
        rcases List.eq_nil_or_concat s1.ws with e | ⟨l, x, e⟩
        · rw [e] at hQ; simp at hQ; omega
        · exact ⟨l, x, by rw [e, List.concat_eq_append]⟩
      have hx := hlm.gd.wn x (by rw [hws]; exact List.mem_append_right _ (List.mem_singleton.2 rfl))
      obtain ⟨k1, rfl, hk1⟩ := L3.exB_nat hx.1
      have q1 : decide ((Q : Int) > 0) = true := decide_eq_true (by omega)
      have q2 : decide (0 < Q) = true := decide_eq_true hpos
      have c1 := hlm.sta.c1
      have HLM := hide hlm
      have HTK := hide (fun W' d => hlm.sta.take HE.out hws W' d)
      have HWS := hide hws
      have HK1 := hide hk1
      clear hlm hws hx hk1 hQ hn4
      go_wp2_with fail
      go_region_held3 (fun W => W.cell? ⟨m, 1, none⟩ = some (.func (.func fid) #[] lb)) (first | exact c1 | exact h4.c1 | exact h3.c1 | exact h2.c1 | go_keep)
        (first
          | (go_at_call 29; refine (HTK.out _ (by (repeat (first | exact Chg.refl _ _ | refine Chg.drew ?_)))).mono ?_; rintro e W2 ⟨rfl, v2, h2⟩)
          | (go_at_call 28; refine hmk.mono ?_; rintro e W4 ⟨rfl, v4, h4⟩)
          | (refine (h2.ask HE.out HK1.out).mono ?_; rintro e W3 ⟨a3, k3, rfl, h3, hmk⟩))
      all_goals (
        have htk := HLM.out.gd.take HWS.out
        have HN2 := hide (show Lm w W4 C E Inv zs m p g n r (.func (.func fid) #[] lb) v4 (puts n r ⟨s1.S, l, s1.lo⟩ (E k1)) (upd A1 k1 true) rn from
          ⟨h4, htk.2.2, fun x hx he => puts_sub _ _ (HLM.out.rt x hx he), by have := HLM.out.bd; have := take_pt (n := n) (r := r) HWS.out HLM.out.gd.wl (E k1); omega, HLM.out.rl.imp id fun h => Nat.lt_of_lt_of_le h (cnt_sub (fun j hj => puts_sub _ _ hj) n)⟩)
        have HPT := hide (take_pt (n := n) (r := r) HWS.out HLM.out.gd.wl (E k1))
        clear h2 h3 h4 hmk htk c1 c2
        go_wp2_with fail
        go_step3
        (exact ⟨rfl, _, hmu ▸ HPT.out, m, p, g, rn, v4, _, _, HN2.out, rfl, _, _, _, _, _, _, _, _, _, _, _, _, _, _, _, _, _, _, _, _, _, _, _, _, _, _, _, _, rfl⟩))
set_option maxRecDepth 100000 in
set_option maxHeartbeats 2000000 in
/-- Without a function no place leads anywhere. -/
theorem reach_nil (hE : Ed w n E Inv C 26 #[]) (ht : Tab w) (hz : L1.Rd w a k zs) (hk : k ≤ 1000000) (hi : Inv (fun _ => false) w) (hS : ∀ j, S j = true ↔ Rch n E zs j) (hn : clamp places = n) (hr : max room 1 = (r : Int)) :
    Calls Tryd.prog 12 #[.int .i64 places, .int .i64 room, .nilFunc, .slice a k c] w (Reached w C Inv n r S) := by
  have eg := hE.eg
  have qf := fn_nil
  have hmx := max_one hr
  have HE := hide hE
  have HT := hide ht
  have HZ := hide hz
  have HK := hide hk
  have HI := hide hi
  have HS := hide hS
  have HN := hide hn
  clear hE ht hz hk hi hS hn hr
  go_enter Tryd.func12, Tryd.ntmps12
  go_wp2_with fail
  refine wp_scope_ghost 0 (fun a' W' mu => ∃ (m p g rn : Nat) (v' : Value) (s' : St) (A' : Nat → Bool), Lm w W' C E Inv zs m p g n r (.func (.func 26) #[] #[]) v' s' A' rn ∧ pt n s' = mu ∧ ∃ u9 u12 u13 u14 u15 u16 u17 u18 u19 u20 u21 u22 u23 u24 u25 u26 u27 u28 u29 u30 u31 u32 u33 u34 u35 u36 u37 u38 : Value, a' = { tmps := #[.int .i64 places, .int .i64 room, .func (.func 26) #[] #[], .slice a k c, undef, undef, undef, undef, .pointer none, u9, ptr m, .int .i64 rn, u12, u13, u14, u15, u16, u17, u18, u19, u20, u21, u22, u23, u24, u25, u26, u27, u28, u29, u30, u31, u32, u33, u34, u35, u36, u37, u38], defers := [] }) rfl ?_ ?_
  · go_wp2_with fail
    refine (ms_new places _).mono ?_
    rintro e w1 ⟨rfl, hms, d1⟩
    rw [HN.out] at hms
    generalize hp : w.heap.size + 1 = p at *
    obtain ⟨g, hg⟩ : ∃ g, g = w.heap.size := ⟨_, rfl⟩
    rw [← hg] at hms
    have gB := Grow.box w1 (.cells #[ptr p, .func (.func 26) #[] #[], .slice none 0 0, .int .i64 r, .bool false] 46)
    have hm0 : Mk (w1.alloc (.cells #[ptr p, .func (.func 26) #[] #[], .slice none 0 0, .int .i64 r, .bool false] 46)) w.heap.size w1.heap.size p g n r (.func (.func 26) #[] #[]) (.slice none 0 0) ⟨fun _ => false, [], false⟩ :=
      ⟨⟨Blk.new w1 _ [ptr p, .func (.func 26) #[] #[], .slice none 0 0, .int .i64 r, .bool false], hms.grow gB, d1.size, by omega, by omega, by have := hms.plt; omega, by have := hms.glt; omega⟩, ol_nil _ _, Nat.zero_le _⟩
    have hch : Chg (fun k => C k ∨ w.heap.size ≤ k) w (w1.alloc (.cells #[ptr p, .func (.func 26) #[] #[], .slice none 0 0, .int .i64 r, .bool false] 46)) := (d1.trans gB).mono fun _ _ e => e.elim
    have HM := hide hm0
    have HCH := hide hch
    have HG := hide (d1.trans gB)
    have HRD := hide (HZ.out.grow HG.out)
    have HSZ := hide (And.intro hp hg)
    clear hms d1 gB hm0 hch hp hg
    go_wp2_with fail
    generalize w1.alloc (.cells #[ptr p, .func (.func 26) #[] #[], .slice none 0 0, .int .i64 r, .bool false] 46) = w2 at *
    have hm1 : w.heap.size ≤ w1.heap.size := HM.out.mb.hm
    generalize w1.heap.size = m at *
    refine (mark_any HM.out HRD.out (fun h0 x e => ?_) HK.out HCH.out.size).mono ?_
    · subst e
      have := HZ.out.lt h0
      have := HSZ.out
      exact ⟨by omega, by omega, fun e => by cases e⟩
    rintro e w3 ⟨rfl, v1, hm3, d3⟩
    obtain ⟨s1, hs1⟩ : ∃ s1, puts n r ⟨fun _ => false, [], false⟩ zs = s1 := ⟨_, rfl⟩
    have hpt : pt n s1 ≤ 4 * n := by
      rw [← hs1]
      refine Nat.le_trans (puts_pt zs (Nat.zero_le _)) ?_
      unfold pt
      simp
      omega
    have hlm : Lm w w3 C E Inv zs m p g n r (.func (.func 26) #[] #[]) v1 s1 (fun _ => false) 0 :=
      ⟨⟨hs1 ▸ hm3, HE.out.st _ _ _ HI.out ((HG.out.mono fun _ _ e => e.elim).step d3 fun i _ e => e), HCH.out.step d3 fun i _ e => .inr e⟩, hs1 ▸ Gd.roots n r E zs, fun x hx he => hs1 ▸ puts_has zs x hx he, by omega, .inl rfl⟩
    obtain ⟨rn, hrn⟩ : ∃ rn, 0 = rn := ⟨_, rfl⟩
    rw [hrn] at hlm
    have HRN := hide hrn
    clear hm1 HM HRD HCH HG hs1 hm3 d3 hpt HI hrn
    go_wp2_with fail
    rw [show Value.int .i64 0 = Value.int .i64 (rn : Int) from by rw [← HRN.out]; rfl]
    clear HRN HSZ
    go_step3
    obtain ⟨Q, hQ⟩ : ∃ Q, s1.ws.length = Q := ⟨_, rfl⟩
    have c2 := hlm.sta.ma.mb.blk.cell 2
    obtain ⟨va, vc, hva⟩ := own_len hlm.sta.ma.ol
    rw [hQ] at hva
    subst hva
    have hn4 := hlm.sta.ma.mb.ms.most
    rcases Nat.eq_zero_or_pos Q with h0 | hpos
    · subst h0
      have hws : s1.ws = [] := List.eq_nil_of_length_eq_zero hQ
      have q1 : decide (((0 : Nat) : Int) > 0) = false := by decide
      have c4 := hlm.sta.ma.mb.blk.cell 4
      cases hlo : s1.lo with
      | false =>
        have HD := hide (hlm.done hws hlo HS.out)
        have c0 := hlm.sta.ma.mb.blk.cell 0
        rw [hlo] at c4
        clear hlm hws hlo hQ hn4
        go_wp2_with fail
        simp only [Exit.jump]
        go_returns
        exact HD.out
      | true =>
        rw [hlo] at c4
        have HLM := hide hlm
        have HLO := hide hlo
        have hw1 : IntKind.i64.wrap ((rn : Int) + 1) = ((rn + 1 : Nat) : Int) := (IntWalk.i64_in _ (by have := hlm.bd; omega)).trans (by omega)
        obtain ⟨rn1, hrn⟩ : ∃ rn1, rn + 1 = rn1 := ⟨_, rfl⟩
        rw [hrn] at hw1
        have HRN := hide hrn
        clear hlm hws hlo hQ hn4 hrn
        go_wp2_with fail
        refine (rescan_any HE.out HT.out HLM.out.sta HLM.out.gd HLO.out).mono ?_
        rintro e W2 ⟨rfl, v2, s2, A2, h2, hg2, hpt2, hsb2⟩
        have HN2 := hide (show Lm w W2 C E Inv zs m p g n r (.func (.func 26) #[] #[]) v2 s2 A2 rn1 from
          ⟨h2, hg2, fun x hx he => hsb2 _ (HLM.out.rt x hx he), by have := HLM.out.bd; have := HRN.out; omega, .inr (Nat.lt_of_lt_of_le (HLM.out.gd.lr HLO.out) (cnt_sub hsb2 n))⟩)
        have HPT := hide hpt2
        clear h2 hg2 hpt2 hsb2 c2 c4
        go_wp2_with fail
        go_step3
        (exact ⟨rfl, _, m, p, g, rn1, v2, s2, A2, HN2.out, rfl, _, _, _, _, _, _, _, _, _, _, _, _, _, _, _, _, _, _, _, _, _, _, _, _, _, _, _, _, rfl⟩)
    · obtain ⟨l, x, hws⟩ : ∃ l x, s1.ws = l ++ [x] := by
        rcases List.eq_nil_or_concat s1.ws with e | ⟨l, x, e⟩
        · rw [e] at hQ; simp at hQ; omega
        · exact ⟨l, x, by rw [e, List.concat_eq_append]⟩
      have hx := hlm.gd.wn x (by rw [hws]; exact List.mem_append_right _ (List.mem_singleton.2 rfl))
      obtain ⟨k1, rfl, hk1⟩ := L3.exB_nat hx.1
      have q1 : decide ((Q : Int) > 0) = true := decide_eq_true (by omega)
      have q2 : decide (0 < Q) = true := decide_eq_true hpos
      have c1 := hlm.sta.c1
      have HLM := hide hlm
      have HTK := hide (fun W' d => hlm.sta.take HE.out hws W' d)
      have HWS := hide hws
      have HK1 := hide hk1
      clear hlm hws hx hk1 hQ hn4
      go_wp2_with fail
      go_region_held3 (fun W => W.cell? ⟨m, 1, none⟩ = some (.func (.func 26) #[] #[])) (first | exact c1 | exact h4.c1 | exact h3.c1 | exact h2.c1 | go_keep)
        (first
          | (go_at_call 29; refine (HTK.out _ (by (repeat (first | exact Chg.refl _ _ | refine Chg.drew ?_)))).mono ?_; rintro e W2 ⟨rfl, v2, h2⟩)
          | (go_at_call 28; refine hmk.mono ?_; rintro e W4 ⟨rfl, v4, h4⟩)
          | (refine (h2.ask HE.out HK1.out).mono ?_; rintro e W3 ⟨a3, k3, rfl, h3, hmk⟩))
      all_goals (
        have htk := HLM.out.gd.take HWS.out
        have HN2 := hide (show Lm w W4 C E Inv zs m p g n r (.func (.func 26) #[] #[]) v4 (puts n r ⟨s1.S, l, s1.lo⟩ (E k1)) (upd (fun _ => false) k1 true) rn from
          ⟨h4, htk.2.2, fun x hx he => puts_sub _ _ (HLM.out.rt x hx he), by have := HLM.out.bd; have := take_pt (n := n) (r := r) HWS.out HLM.out.gd.wl (E k1); omega, HLM.out.rl.imp id fun h => Nat.lt_of_lt_of_le h (cnt_sub (fun j hj => puts_sub _ _ hj) n)⟩)
        have HPT := hide (take_pt (n := n) (r := r) HWS.out HLM.out.gd.wl (E k1))
        clear h2 h3 h4 hmk htk c1 c2
        go_wp2_with fail
        go_step3
        (exact ⟨rfl, _, m, p, g, rn, v4, _, _, HN2.out, rfl, _, _, _, _, _, _, _, _, _, _, _, _, _, _, _, _, _, _, _, _, _, _, _, _, _, _, _, _, rfl⟩))
  · rintro a' W mu ⟨m, p, g, rn, v1, s1, A1, hlm, hmu, u9, u12, u13, u14, u15, u16, u17, u18, u19, u20, u21, u22, u23, u24, u25, u26, u27, u28, u29, u30, u31, u32, u33, u34, u35, u36, u37, u38, rfl⟩
    obtain ⟨Q, hQ⟩ : ∃ Q, s1.ws.length = Q := ⟨_, rfl⟩
    have c2 := hlm.sta.ma.mb.blk.cell 2
    obtain ⟨va, vc, hva⟩ := own_len hlm.sta.ma.ol
    rw [hQ] at hva
    subst hva
    have hn4 := hlm.sta.ma.mb.ms.most
    rcases Nat.eq_zero_or_pos Q with h0 | hpos
    · subst h0
      have hws : s1.ws = [] := List.eq_nil_of_length_eq_zero hQ
      have q1 : decide (((0 : Nat) : Int) > 0) = false := by decide
      have c4 := hlm.sta.ma.mb.blk.cell 4
      cases hlo : s1.lo with
      | false =>
        have HD := hide (hlm.done hws hlo HS.out)
        have c0 := hlm.sta.ma.mb.blk.cell 0
        rw [hlo] at c4
        clear hlm hws hlo hQ hn4
        go_wp2_with fail
        simp only [Exit.jump]
        go_returns
        exact HD.out
      | true =>
        rw [hlo] at c4
        have HLM := hide hlm
        have HLO := hide hlo
        have hw1 : IntKind.i64.wrap ((rn : Int) + 1) = ((rn + 1 : Nat) : Int) := (IntWalk.i64_in _ (by have := hlm.bd; omega)).trans (by omega)
        obtain ⟨rn1, hrn⟩ : ∃ rn1, rn + 1 = rn1 := ⟨_, rfl⟩
        rw [hrn] at hw1
        have HRN := hide hrn
        clear hlm hws hlo hQ hn4 hrn
        go_wp2_with fail
        refine (rescan_any HE.out HT.out HLM.out.sta HLM.out.gd HLO.out).mono ?_
        rintro e W2 ⟨rfl, v2, s2, A2, h2, hg2, hpt2, hsb2⟩
        have HN2 := hide (show Lm w W2 C E Inv zs m p g n r (.func (.func 26) #[] #[]) v2 s2 A2 rn1 from
          ⟨h2, hg2, fun x hx he => hsb2 _ (HLM.out.rt x hx he), by have := HLM.out.bd; have := HRN.out; omega, .inr (Nat.lt_of_lt_of_le (HLM.out.gd.lr HLO.out) (cnt_sub hsb2 n))⟩)
        have HPT := hide hpt2
        clear h2 hg2 hpt2 hsb2 c2 c4
        go_wp2_with fail
        go_step3
        (exact ⟨rfl, _, hmu ▸ HPT.out, m, p, g, rn1, v2, s2, A2, HN2.out, rfl, _, _, _, _, _, _, _, _, _, _, _, _, _, _, _, _, _, _, _, _, _, _, _, _, _, _, _, _, rfl⟩)
    · obtain ⟨l, x, hws⟩ : ∃ l x, s1.ws = l ++ [x] := by
        rcases List.eq_nil_or_concat s1.ws with e | ⟨l, x, e⟩
        · rw [e] at hQ; simp at hQ; omega
        · exact ⟨l, x, by rw [e, List.concat_eq_append]⟩
      have hx := hlm.gd.wn x (by rw [hws]; exact List.mem_append_right _ (List.mem_singleton.2 rfl))
      obtain ⟨k1, rfl, hk1⟩ := L3.exB_nat hx.1
      have q1 : decide ((Q : Int) > 0) = true := decide_eq_true (by omega)
      have q2 : decide (0 < Q) = true := decide_eq_true hpos
      have c1 := hlm.sta.c1
      have HLM := hide hlm
      have HTK := hide (fun W' d => hlm.sta.take HE.out hws W' d)
      have HWS := hide hws
      have HK1 := hide hk1
      clear hlm hws hx hk1 hQ hn4
      go_wp2_with fail
      go_region_held3 (fun W => W.cell? ⟨m, 1, none⟩ = some (.func (.func 26) #[] #[])) (first | exact c1 | exact h4.c1 | exact h3.c1 | exact h2.c1 | go_keep)
        (first
          | (go_at_call 29; refine (HTK.out _ (by (repeat (first | exact Chg.refl _ _ | refine Chg.drew ?_)))).mono ?_; rintro e W2 ⟨rfl, v2, h2⟩)
          | (go_at_call 28; refine hmk.mono ?_; rintro e W4 ⟨rfl, v4, h4⟩)
          | (refine (h2.ask HE.out HK1.out).mono ?_; rintro e W3 ⟨a3, k3, rfl, h3, hmk⟩))
      all_goals (
        have htk := HLM.out.gd.take HWS.out
        have HN2 := hide (show Lm w W4 C E Inv zs m p g n r (.func (.func 26) #[] #[]) v4 (puts n r ⟨s1.S, l, s1.lo⟩ (E k1)) (upd A1 k1 true) rn from
          ⟨h4, htk.2.2, fun x hx he => puts_sub _ _ (HLM.out.rt x hx he), by have := HLM.out.bd; have := take_pt (n := n) (r := r) HWS.out HLM.out.gd.wl (E k1); omega, HLM.out.rl.imp id fun h => Nat.lt_of_lt_of_le h (cnt_sub (fun j hj => puts_sub _ _ hj) n)⟩)
        have HPT := hide (take_pt (n := n) (r := r) HWS.out HLM.out.gd.wl (E k1))
        clear h2 h3 h4 hmk htk c1 c2
        go_wp2_with fail
        go_step3
        (exact ⟨rfl, _, hmu ▸ HPT.out, m, p, g, rn, v4, _, _, HN2.out, rfl, _, _, _, _, _, _, _, _, _, _, _, _, _, _, _, _, _, _, _, _, _, _, _, _, _, _, _, _, rfl⟩))
end
end Go.Proofs.YtaddomgjjemglaaDoor.L14
