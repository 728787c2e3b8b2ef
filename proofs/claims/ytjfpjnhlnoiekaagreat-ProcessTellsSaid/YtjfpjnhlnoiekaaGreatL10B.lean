/- Strengths: the set that the program makes; as a list; a node's strength. Conditions: as each part says. -/
import Derived.Test.YtjfpjnhlnoiekaaGreatL10A
import Derived.Test.YtjfpjnhlnoiekaaGreatL9A
import Derived.WalkMore
/- What is reached within a level: the loop over those still open. Conditions: at most 1000000 roots, fewer than 1000000 nodes. -/
namespace Go.Proofs.YtjfpjnhlnoiekaaGreat.L10
open Go.ChangeShapes Go.WideShapes Go.ChangeAt Go.RowKit
open Go.Proofs.YtjfpjnhlnoiekaaGreat.L9 (Nd nd GS In64 Srt nd_some nd_none nd_mem own_rd ptr wpList_app hldX aimX Su node_no node_yes aim_gs holds_gs len_step hld_len hld kd)
open Go.Proofs.YtjfpjnhlnoiekaaGreat.L5 (Cl clAt isRf)
set_option linter.unusedVariables false
/-- What holds between two visits: q who was visited, os who is still open. -/
structure Op (cs : List Cl) (L : List Nd) (lev : Int) (ss : List Int) (q : Int → Bool) (os : List Int) : Prop where
  a : ∀ i, q i = true → Rc cs L lev ss i
  b : ∀ i ∈ os, nd L i ≠ none → Rc cs L lev ss i
  c : ∀ i ∈ ss, nd L i ≠ none → q i = true ∨ i ∈ os
  d : ∀ i j, q i = true → j ∈ outs cs L lev i → nd L j ≠ none → q j = true ∨ j ∈ os
section
variable {cs : List Cl} {L : List Nd} {lev i : Int} {ss os : List Int} {q : Int → Bool}
theorem Op.start (cs : List Cl) (L : List Nd) (lev : Int) (ss : List Int) : Op cs L lev ss (fun _ => false) ss :=
  ⟨fun i h => (by cases h), fun i h k => .st h k, fun i h k => .inr h, fun i j h => (by cases h)⟩
theorem Op.skip (h : Op cs L lev ss q (os ++ [i])) (hi : q i = true ∨ nd L i = none) : Op cs L lev ss q os := by
  have key : ∀ j, nd L j ≠ none → (q j = true ∨ j ∈ os ++ [i]) → q j = true ∨ j ∈ os := fun j hn hj => by
    rcases hj with hj | hj
    · exact .inl hj
    · rcases List.mem_append.1 hj with hj | hj
      · exact .inr hj
      · obtain rfl := List.mem_singleton.1 hj
        rcases hi with hi | hi
        · exact .inl hi
        · exact absurd hi hn
  exact ⟨h.a, fun j hj => h.b j (List.mem_append_left _ hj), fun j hj hn => key j hn (h.c j hj hn), fun j k hj hk hn => key k hn (h.d j k hj hk hn)⟩
theorem Op.take (h : Op cs L lev ss q (os ++ [i])) (hi : nd L i ≠ none) : Op cs L lev ss (fun y => decide (y = i) || q y) (os ++ outs cs L lev i) := by
  have hr := h.b i (List.mem_append_right _ (List.mem_singleton.2 rfl)) hi
  have key : ∀ j, (q j = true ∨ j ∈ os ++ [i]) → (decide (j = i) || q j) = true ∨ j ∈ os ++ outs cs L lev i := fun j hj => by
    rcases hj with hj | hj
    · left; rw [hj, Bool.or_true]
    · rcases List.mem_append.1 hj with hj | hj
      · exact .inr (List.mem_append_left _ hj)
      · obtain rfl := List.mem_singleton.1 hj
        left; simp
  refine ⟨fun j hj => ?_, fun j hj hn => ?_, fun j hj hn => key j (h.c j hj hn), fun j k hj hk hn => ?_⟩
  · rw [Bool.or_eq_true, decide_eq_true_eq] at hj
    rcases hj with rfl | hj
    · exact hr
    · exact h.a j hj
  · rcases List.mem_append.1 hj with hj | hj
    · exact h.b j (List.mem_append_left _ hj) hn
    · exact .go hr hj hn
  · rw [Bool.or_eq_true, decide_eq_true_eq] at hj
    rcases hj with rfl | hj
    · exact .inr (List.mem_append_right _ hk)
    · exact key k (h.d j k hj hk hn)
theorem Op.done (h : Op cs L lev ss q []) : IsRc cs L lev ss q :=
  IsRc.mk h.a (fun i hi hn => (h.c i hi hn).resolve_right (by simp)) fun i j hi hj hn => (h.d i j hi hj hn).resolve_right (by simp)
theorem outs_len (hok : ∀ x ∈ L, x.refs.length ≤ 30) (i : Int) : (outs cs L lev i).length ≤ 31 := by
  unfold outs
  rw [List.length_append]
  have h1 : (hldX cs L i).length ≤ 30 := by
    unfold hldX
    cases hn : nd L i with
    | none => simp
    | some x => exact Nat.le_trans (hld_len _ _) (hok x (nd_some hn).1)
  split <;> simp <;> omega
theorem not_step {x : Nd} (hs : Srt L) (hx : x ∈ L) (hq : q x.id = false) : (L.filter fun y => !(decide (y.id = x.id) || q y.id)).length + 1 = (L.filter fun y => !q y.id).length := by
  rw [← len_step (p := fun i => !(decide (i = x.id) || q i)) hs hx (by simp)]
  congr 1
  refine List.filter_congr fun y _ => ?_
  by_cases e : y.id = x.id
  · simp [e, hq]
  · simp [e]
theorem yes_step {x : Nd} (hs : Srt L) (hx : x ∈ L) (hq : q x.id = false) : (L.filter fun y => decide (y.id = x.id) || q y.id).length = (L.filter fun y => q y.id).length + 1 := by
  rw [← len_step (p := q) hs hx hq]
  congr 1
  exact List.filter_congr fun y _ => Bool.or_comm _ _
end
/-- Is a number in the set at block m? -/
def Inm (W : World) (m : Nat) (i : Int) : Prop := (Instr.lookup 121 (.map (some m)) (.int .i64 i) true).run Tryz.prog W = .ok (.tuple #[.agg #[], .bool true]) W
def mOf : Value → Nat
  | .map (some m) => m
  | _ => 0
def lOf : Value → Nat
  | .slice _ n _ => n
  | _ => 0
theorem su_in {W : World} {m cnt : Nat} {q : Int → Bool} (h : Su W m cnt q) {i : Int} (hi : In64 i) : Inm W m i ↔ q i = true := by
  unfold Inm
  rw [h.look hi]
  constructor
  · intro e
    injection e with e
    injection e with e
    have := congrArg (fun a : Array Value => a.getD 1 undef) e
    simpa using this
  · intro e
    rw [e]
/-- What holds at the label. -/
structure Lb (w W : World) (cs : List Cl) (L : List Nd) (lev : Int) (ss : List Int) (m : Nat) (va : Option Addr) (n vc : Nat) (os : List Int) (cnt : Nat) (q : Int → Bool) : Prop where
  su : Su W m cnt q
  ol : OL W w.heap.size (.slice va n vc) os
  ln : os.length = n
  gw : Grow w W
  mg : w.heap.size ≤ m
  op : Op cs L lev ss q os
  i64 : ∀ i ∈ os, In64 i
  cn : cnt = (L.filter fun x => q x.id).length
  len : n ≤ 2000000 + 32 * cnt
section
variable {w W W' : World} {cs : List Cl} {L : List Nd} {lev i : Int} {ss os : List Int} {q : Int → Bool} {m n vc g cnt : Nat} {va : Option Addr}
theorem Lb.bd (h : Lb w W cs L lev ss m va n vc os cnt q) : cnt ≤ L.length := by rw [h.cn]; exact List.length_filter_le _ _
/-- The last of them. -/
theorem Lb.last (h : Lb w W cs L lev ss m va n vc os cnt q) (hn : 0 < n) : ∃ g i, va = some ⟨g, 0, none⟩ ∧ w.heap.size ≤ g ∧ g ≠ m ∧ W.cell? ⟨g, n - 1, none⟩ = some (.int .i64 i) ∧ n ≤ vc ∧ In64 i ∧ os = os.take (n - 1) ++ [i] ∧ OL W w.heap.size (.slice (some ⟨g, 0, none⟩) (n - 1) vc) (os.take (n - 1)) := by
  have hl := h.ln
  have ho := h.ol
  obtain ⟨g, c, e, hg, _, hc, _⟩ := own_form ho (by omega)
  injection e with e1 e2 e3
  subst e1 e3
  have hm : g ≠ m := by
    obtain ⟨D, ⟨es, clock, e1, r⟩, _⟩ := h.su
    intro e
    exact ho.ne_map e1 (by rw [e]; rfl)
  have hoc : OL W w.heap.size (.slice (some ⟨g, 0, none⟩) os.length vc) os := by rw [hl]; exact ho
  refine ⟨g, os.getD (n - 1) 0, rfl, hg, hm, hoc.cell (by omega), by omega, h.i64 _ (getD_mem (by omega)), ?_, ho.cut (by omega)⟩
  have : os.take (n - 1 + 1) = os.take (n - 1) ++ [os.getD (n - 1) 0] := by
    rw [List.take_add_one, List.getElem?_eq_getElem (by omega), List.getD_eq_getElem?_getD, List.getElem?_eq_getElem (by omega)]
    rfl
  rw [← this, show n - 1 + 1 = os.length by omega, List.take_length]
/-- One that was visited, or is no node. -/
theorem Lb.skip (h : Lb w W cs L lev ss m (some ⟨g, 0, none⟩) n vc os cnt q) (hn : 0 < n) (ho : OL W w.heap.size (.slice (some ⟨g, 0, none⟩) (n - 1) vc) (os.take (n - 1))) (he : os = os.take (n - 1) ++ [i]) (hi : q i = true ∨ nd L i = none) (c : Grow W W') :
    Lb w W' cs L lev ss m (some ⟨g, 0, none⟩) (n - 1) vc (os.take (n - 1)) cnt q :=
  ⟨h.su.chg c id, ho.grow c, by have := h.ln; simp; omega, h.gw.trans c, h.mg, (he ▸ h.op).skip hi, fun j hj => h.i64 j (List.mem_of_mem_take hj), h.cn, by have := h.len; omega⟩
end
end Go.Proofs.YtjfpjnhlnoiekaaGreat.L10
/- What is reached within a level: the set that the program makes. Conditions: at most 1000000 roots, fewer than 1000000 nodes. -/
namespace Go.Proofs.YtjfpjnhlnoiekaaGreat.L10
open Go.ChangeShapes Go.WideShapes Go.ChangeAt Go.RowKit
open Go.Proofs.YtjfpjnhlnoiekaaGreat.L9 (Nd nd GS In64 Srt nd_some nd_none nd_mem own_rd ptr wpList_app hldX aimX Su node_no node_yes aim_gs holds_gs)
open Go.Proofs.YtjfpjnhlnoiekaaGreat.L5 (Cl clAt isRf)
set_option linter.unusedVariables false
section
variable {w W W' : World} {cs : List Cl} {L : List Nd} {lev i : Int} {ss os xs ys : List Int} {q : Int → Bool} {m n vc g cnt c0 : Nat} {va a : Option Addr} {v : Value} {x : Nd} {z p : Nat} {S : Nat → Prop}
theorem app_su (hs : Su W m cnt q) (cc : Grow w W) (h : OL W w.heap.size v xs) (hr : L1.Rd W a n ys) (hn : xs.length + n ≤ 100000000) :
    ∃ va' vc' W', (Builtin.append_ #[27, 27] 27 #[v, .slice a n c0]).run Tryz.prog W = .ok (.slice va' (xs ++ ys).length vc') W' ∧ OL W' w.heap.size (.slice va' (xs ++ ys).length vc') (xs ++ ys) ∧ Grow w W' ∧ Su W' m cnt q := by
  obtain ⟨v', W', h1, h2, h3, h4⟩ := app_more (c0 := c0) cc h hr hn
  obtain ⟨va', vc', rfl⟩ := own_len h2
  refine ⟨va', vc', W', h1, h2, h3, ?_⟩
  have hne : v.ownBlock ≠ some m := by
    obtain ⟨D, ⟨es, clock, e1, r⟩, _⟩ := hs
    exact h.ne_map e1
  exact hs.chg (C := fun k => v.ownBlock = some k) ((Chg.refl _ W).grown h4 fun k _ e => e) hne
theorem Lb.take {n' : Nat} (h : Lb w W cs L lev ss m va n vc os cnt q) (hs : Srt L) (hok : ∀ x ∈ L, x.refs.length ≤ 30) (hn : 0 < n) (he : os = os.take (n - 1) ++ [i]) (hx : nd L i = some x) (hq : q i = false)
    (hsu : Su W' m (cnt + 1) (fun y => decide (y = i) || q y)) (ho : OL W' w.heap.size (.slice a n' c0) (os.take (n - 1) ++ outs cs L lev i)) (hn' : (os.take (n - 1) ++ outs cs L lev i).length = n') (cg : Grow w W') (hi : ∀ j ∈ outs cs L lev i, In64 j) :
    Lb w W' cs L lev ss m a n' c0 (os.take (n - 1) ++ outs cs L lev i) (cnt + 1) (fun y => decide (y = i) || q y) := by
  obtain ⟨hx1, rfl⟩ := nd_some hx
  refine ⟨hsu, ho, hn', cg, h.mg, (he ▸ h.op).take (by rw [hx]; simp), fun j hj => ?_, by rw [yes_step hs hx1 hq, h.cn], ?_⟩
  · rcases List.mem_append.1 hj with hj | hj
    · exact h.i64 j (List.mem_of_mem_take hj)
    · exact hi j hj
  · have h1 := h.len
    have h2 := h.ln
    have h3 := outs_len (cs := cs) (lev := lev) hok x.id
    rw [← hn', List.length_append, List.length_take]
    omega
theorem outs_in (h : GS w z S p cs L) (i : Int) : ∀ j ∈ outs cs L lev i, In64 j := by
  intro j hj
  unfold outs at hj
  cases hn : nd L i with
  | none => simp [hldX, aimX, hn, ldB] at hj
  | some x =>
    have hr := (h.ok (nd_some hn).1).rw_
    rcases List.mem_append.1 hj with hj | hj
    · simp only [hldX, hn, L9.hld] at hj
      have := (List.mem_filter.1 hj).1
      split at this
      · exact hr j (List.mem_of_mem_drop this)
      · exact hr j this
    · split at hj
      · rename_i hk
        obtain rfl := List.mem_singleton.1 hj
        simp only [aimX, hn] at hk ⊢
        have h0 : In64 0 := (show (Lit.int .i64 0).wf = true by decide)
        split
        · cases hrf : x.refs with
          | nil => exact h0
          | cons r l => exact hr r (by rw [hrf]; simp)
        · exact h0
      · cases hj
set_option maxRecDepth 100000 in
set_option maxHeartbeats 4000000 in
theorem reached_any (h : GS w z S p cs L) (hl : L.length < 1000000) (lev : Int) {a : Option Addr} {n c : Nat} {zs : List Int} (hz : L1.Rd w a n zs) (hn : n ≤ 1000000) (hi : ∀ i ∈ zs, In64 i) {f : Int → Bool} (hf : IsRc cs L lev (srcW L lev zs) f) :
    Calls Tryz.prog 77 #[ptr p, .int .i64 lev, .slice a n c] w fun e w' => ∃ m cnt, e = .returned (.map (some m)) ∧ Su w' m cnt f ∧ cnt = (L.filter fun x => f x.id).length ∧ Grow w w' := by
  have hmm := @run_makeMap Tryz.prog
  have HST := hide (fun (W : World) (g : Grow w W) => start_any (c := c) (h.grow g) hl lev (L9.L1.Rd.chg hz g fun _ _ => id) hn)
  have hok : ∀ x ∈ L, x.refs.length ≤ 30 := fun x hx => (h.ok hx).rl
  have HOK := hide hok
  have HSR := hide h.srt
  have HG := hide h
  have HL := hide hl
  have HF := hide hf
  have hln : (srcW L lev zs).length ≤ 2000000 := by
    have h1 : (fins L).length ≤ L.length := by unfold fins; rw [List.length_map]; exact List.length_filter_le _ _
    have h2 := hz.1
    unfold srcW srcC
    split
    · simp
    · split
      · rw [List.length_append]; omega
      · omega
  have hin : ∀ i ∈ srcW L lev zs, In64 i := by
    intro i hj
    have h1 : ∀ i ∈ fins L, In64 i := fun i hj => by
      obtain ⟨y, hy, rfl⟩ := List.mem_map.1 hj
      exact (h.ok (List.mem_filter.1 hy).1).id2
    unfold srcW srcC at hj
    split at hj
    · cases hj
    · split at hj
      · rcases List.mem_append.1 hj with hj | hj
        · exact hi i hj
        · exact h1 i hj
      · exact hi i hj
  have HB := hide (And.intro hln hin)
  obtain ⟨ss, hss⟩ : ∃ ss, srcW L lev zs = ss := ⟨_, rfl⟩
  rw [hss] at HST HF HB
  have hnot : ∀ (W : World) (m cnt : Nat) (q : Int → Bool), Su W m cnt q → (L.filter fun x => !(@decide (Inm W m x.id) (Classical.propDecidable _))) = L.filter fun x => !q x.id := fun W m cnt q hs => List.filter_congr fun x hx => by
    have := su_in hs (h.ok hx).id2
    cases hq : q x.id with
    | true => simp [this, hq]
    | false => simp [this, hq]
  have HN := hide hnot
  clear h hl hz hn hi hf hok hln hin hnot hss
  go_enter Tryz.func77, Tryz.ntmps77
  go_wp2_with fail
  refine wp_scope_jumps 0 (fun a' W => ∃ (m : Nat) (va : Option Addr) (n1 vc : Nat) (os : List Int) (cnt : Nat) (q : Int → Bool), Lb w W cs L lev ss m va n1 vc os cnt q ∧ ∃ u9 u10 u11 u12 u13 u14 u15 u16 u17 u18 u19 u20 u21 u22 u23 u24 u25 u26 u27 u28 u29 u30 u31 u32 u33 u34 u35 u36 u37 u38 u39 u40 u41 u42 u43 u44 u45 u46 u47 u48 u49 u50 u51 u52 u53 u54 u55 u56 u57 u58 u59 u60 u61 u62 u63 u64 u65 u66 u67 u68 u69 u70 : Value, a' = { tmps := #[ptr p, .int .i64 lev, .slice a n c, undef, undef, undef, .map none, .map (some m), .slice va n1 vc, u9, u10, u11, u12, u13, u14, u15, u16, u17, u18, u19, u20, u21, u22, u23, u24, u25, u26, u27, u28, u29, u30, u31, u32, u33, u34, u35, u36, u37, u38, u39, u40, u41, u42, u43, u44, u45, u46, u47, u48, u49, u50, u51, u52, u53, u54, u55, u56, u57, u58, u59, u60, u61, u62, u63, u64, u65, u66, u67, u68, u69, u70], defers := [] }) (fun a' W => 64 * (L.filter fun x => !(@decide (Inm W (mOf (a'.tmps.getD 7 undef)) x.id) (Classical.propDecidable _))).length + lOf (a'.tmps.getD 8 undef)) rfl ?_ ?_
  · go_wp2_with fail
    have gm := Grow.box w (.map #[] 0)
    refine (HST.out _ gm).mono ?_
    rintro e W ⟨v, rfl, ho, c1⟩
    obtain ⟨va, vc, rfl⟩ := own_len ho
    have hlb : Lb w W cs L lev ss w.heap.size va ss.length vc ss 0 (fun _ => false) := ⟨(L9.Su.made w).chg c1 id, OL.lower ho gm.size, rfl, gm.trans c1, Nat.le_refl _, Op.start _ _ _ _, HB.out.2, (by rw [show (L.filter fun _ => false) = [] from List.filter_eq_nil_iff.2 fun _ _ => by simp]; rfl), by have := HB.out.1; omega⟩
    obtain ⟨n1, hn1⟩ : ∃ n1, ss.length = n1 := ⟨_, rfl⟩
    rw [hn1] at hlb ⊢
    obtain ⟨m, hm⟩ : ∃ m, w.heap.size = m := ⟨_, rfl⟩
    have hlb' : ∃ (os : List Int) (cnt : Nat) (q : Int → Bool), Lb w W cs L lev ss m va n1 vc os cnt q := ⟨_, _, _, hm ▸ hlb⟩
    rw [hm]
    clear hmm HST ho c1 gm hlb hm hn1
    obtain ⟨os, cnt, q, hlb⟩ := hlb'
    go_wp2_with fail
    go_step3
    rcases Nat.eq_zero_or_pos n1 with h0 | hpos
    · subst h0
      have q1 : decide ((-1 : Int) < 0) = true := by decide
      have HLB := hide hlb
      have hos : os = [] := List.eq_nil_of_length_eq_zero hlb.ln
      subst hos
      clear hlb
      go_wp2_with fail
      simp only [Exit.jump]
      go_ret
      have hq : q = f := HLB.out.op.done.eq HF.out
      subst hq
      exact ⟨m, cnt, rfl, HLB.out.su, HLB.out.cn, HLB.out.gw⟩
    · obtain ⟨g, i, rfl, hg, hgm, hci, hnc, hii, hos, hcut⟩ := hlb.last hpos
      have HLB := hide hlb
      have hbd : n1 ≤ 40000000 := by have := hlb.len; have := hlb.bd; have := HL.out; omega
      obtain ⟨l, hln⟩ : ∃ l, n1 - 1 = l := ⟨_, rfl⟩
      rw [hln] at hci hos hcut
      have hw1 : IntKind.i64.wrap ((n1 : Int) - 1) = (l : Int) := (IntWalk.i64_in _ (by omega)).trans (by omega)
      have hw2 : wrap64 ((n1 : Int) - 1) = (l : Int) := by rw [wrap64_id _ (by omega)]; omega
      have q1 : decide ((l : Int) < 0) = false := by simp
      have q2 : l < n1 := by omega
      have q3 : l ≤ vc := by omega
      have hlook := hlb.su.look hii
      have HLN := hide hln
      have HPOS := hide (And.intro hpos hbd)
      have HOS := hide hos
      have HCUT := hide hcut
      have HII := hide hii
      have gB := Grow.box W (.cells #[] 122)
      cases hq : q i with
      | true =>
        rw [hq] at hlook
        have HN1 := hide (HLB.out.skip hpos (by rw [hln]; exact hcut) (by rw [hln]; exact hos) (.inl hq) gB)
        rw [hln] at HN1
        have HMS := hide (show 64 * (L.filter fun x => !(@decide (Inm (W.alloc (.cells #[] 122)) m x.id) (Classical.propDecidable _))).length + l < 64 * (L.filter fun x => !(@decide (Inm W m x.id) (Classical.propDecidable _))).length + n1 by
          rw [HN.out _ _ _ _ HN1.out.su, HN.out _ _ _ _ HLB.out.su]
          omega)
        clear hlb hos hcut hln hpos hbd hii hq hg hgm hnc gB
        go_wp2_with fail
        go_step3
        (exact ⟨rfl, m, _, l, _, _, cnt, q, HN1.out, _, _, _, _, _, _, _, _, _, _, _, _, _, _, _, _, _, _, _, _, _, _, _, _, _, _, _, _, _, _, _, _, _, _, _, _, _, _, _, _, _, _, _, _, _, _, _, _, _, _, _, _, _, _, _, _, _, _, _, _, _, _, rfl⟩)
      | false =>
        rw [hq] at hlook
        have HQ := hide hq
        have HW1 := hide (HLB.out.gw.trans gB)
        have HGB := hide gB
        have HG1 := hide (HG.out.grow HW1.out)
        have HGM := hide hgm
        cases hn : nd L i with
        | none =>
          have HND := hide (node_no HG1.out HII.out hn)
          have HSK := hide (fun (W' : World) (c : Grow W W') => HLB.out.skip hpos (by rw [hln]; exact hcut) (by rw [hln]; exact hos) (.inr hn) c)
          rw [hln] at HSK
          clear hlb hos hcut hln hpos hbd hii hq hg hgm hnc gB hn
          go_wp2_with fail
          refine HND.out.mono ?_
          rintro e W2 ⟨rfl, c2⟩
          have HN1 := hide (HSK.out (W2.alloc (.cells #[.int .i64 0, .int .i64 0, .slice none 0 0, .slice none 0 0, .bool false] 38)) ((HGB.out.trans c2).alloc _))
          have HMS := hide (show 64 * (L.filter fun x => !(@decide (Inm (W2.alloc (.cells #[.int .i64 0, .int .i64 0, .slice none 0 0, .slice none 0 0, .bool false] 38)) m x.id) (Classical.propDecidable _))).length + l < 64 * (L.filter fun x => !(@decide (Inm W m x.id) (Classical.propDecidable _))).length + n1 by
            rw [HN.out _ _ _ _ HN1.out.su, HN.out _ _ _ _ HLB.out.su]
            omega)
          clear c2
          go_wp2_with fail
          go_step3
          (exact ⟨rfl, m, _, l, _, _, cnt, q, HN1.out, _, _, _, _, _, _, _, _, _, _, _, _, _, _, _, _, _, _, _, _, _, _, _, _, _, _, _, _, _, _, _, _, _, _, _, _, _, _, _, _, _, _, _, _, _, _, _, _, _, _, _, _, _, _, _, _, _, _, _, _, _, _, rfl⟩)
        | some x =>
          have HND := hide (node_yes HG1.out HII.out hn)
          have HX := hide hn
          have hll : (os.take l).length = l := by have := HLB.out.ln; simp; omega
          have HLL := hide hll
          obtain ⟨H0, hH0⟩ : ∃ H0, hldX cs L i = H0 := ⟨_, rfl⟩
          obtain ⟨⟨at1, ak1⟩, hax⟩ : ∃ pr : Int × Int, aimX cs L i = pr := ⟨_, rfl⟩
          have hou : outs cs L lev i = H0 ++ (if ldB ak1 lev then [at1] else []) := by unfold outs; rw [hH0, hax]
          have hol := outs_len (cs := cs) (lev := lev) HOK.out i
          rw [hou, List.length_append] at hol
          have HOU := hide hou
          have HOL := hide hol
          have HH0 := hide hH0
          have HAX := hide hax
          clear hlb hos hln hpos hbd hii hq hg hgm hnc gB hn hll hH0 hax hou hol hcut
          go_wp2_with fail
          refine HND.out.mono ?_
          rintro e W2 ⟨ar, cr, ad, cd, rfl, -, c2⟩
          have g3 : Grow W (W2.alloc (.cells #[.int .i64 x.id, .int .i64 x.c, .slice ar x.refs.length cr, .slice ad x.data.length cd, .bool x.fin] 38)) := (HGB.out.trans c2).alloc _
          obtain ⟨W4, hput, hsu4, c4⟩ := (HLB.out.su.chg g3 id).put HII.out (by have := HLB.out.bd; have := HL.out; unfold maxLen; omega)
          have gw4 : Grow w W4 := (HLB.out.gw.trans g3).step c4 fun k hk e => by have := HLB.out.mg; omega
          have ol4 : OL W4 w.heap.size (.slice (some ⟨g, 0, none⟩) l vc) (os.take l) := (HCUT.out.grow g3).chg c4 fun k hk e => HGM.out (show g = m by rw [← e]; injection hk)
          have HHO := hide (holds_gs (HG.out.grow gw4) HII.out)
          rw [HH0.out] at HHO
          have HS4 := hide hsu4
          have HO4 := hide ol4
          have HW4 := hide gw4
          clear c2 g3 hsu4 c4 gw4 ol4
          go_wp2_with fail
          refine HHO.out.mono ?_
          rintro e W5 ⟨ha, hc5, rfl, hrow, c5⟩
          obtain ⟨va6, vc6, W6, hr6, ho6, g6, su6⟩ := app_su (c0 := hc5) (HS4.out.chg c5 id) (HW4.out.trans c5) (HO4.out.grow c5) (own_rd hrow) (by have := HLL.out; have := HOL.out; have := HPOS.out; omega)
          obtain ⟨M, hM⟩ : ∃ M, (os.take l ++ H0).length = M := ⟨_, rfl⟩
          rw [hM] at hr6 ho6
          have KA := hide hr6
          have HM := hide hM
          have HO6 := hide ho6
          have HW6 := hide g6
          have HS6 := hide su6
          have HAI := hide (aim_gs (HG.out.grow g6) HII.out)
          rw [HAX.out] at HAI
          clear c5 hrow hr6 hM ho6 g6 su6 hput
          go_wp2_with (at_builtin; refine wpList_app rfl _ _ 27 rfl (.slice (some ⟨g, 0, none⟩) l vc) (.slice ha H0.length hc5) (.slice va6 M vc6) _ W6 rfl rfl KA.out ?_)
          clear hci hw1 hw2 q1 q2 q3
          refine HAI.out.mono ?_
          rintro e W7 ⟨rfl, c7⟩
          dsimp only
          have HS7 := hide (HS6.out.chg c7 id)
          have HO7 := hide (HO6.out.grow c7)
          have HW7 := hide (HW6.out.trans c7)
          clear c7
          go_wp2_with fail
          refine (leads_any _ _ _).mono ?_
          rintro e w' ⟨rfl, rfl⟩
          cases hb : ldB ak1 lev with
          | false =>
            have hou := HOU.out
            have hol := HOL.out
            rw [hb, if_neg (by simp), List.append_nil] at hou
            have HN1 := hide (HLB.out.take HSR.out HOK.out HPOS.out.1 (by rw [HLN.out]; exact HOS.out) HX.out HQ.out (c0 := vc6) (a := va6) (n' := M) HS7.out (by rw [HLN.out, hou]; exact HO7.out) (by rw [HLN.out, hou]; exact HM.out) HW7.out (outs_in HG.out i))
            have HMS := hide (show 64 * (L.filter fun x => !(@decide (Inm W7 m x.id) (Classical.propDecidable _))).length + M < 64 * (L.filter fun x => !(@decide (Inm W m x.id) (Classical.propDecidable _))).length + n1 by
              rw [HN.out _ _ _ _ HN1.out.su, HN.out _ _ _ _ HLB.out.su]
              obtain ⟨hx1, hx2⟩ := nd_some HX.out
              have h1 := not_step (q := q) HSR.out hx1 (by rw [hx2]; exact HQ.out)
              rw [hx2] at h1
              have h2 := HM.out
              rw [List.length_append, HLL.out] at h2
              have := HPOS.out
              have := HLN.out
              omega)
            clear hou hol hb
            go_wp2_with fail
            go_step3
            (exact ⟨rfl, m, _, M, _, _, cnt + 1, _, HN1.out, _, _, _, _, _, _, _, _, _, _, _, _, _, _, _, _, _, _, _, _, _, _, _, _, _, _, _, _, _, _, _, _, _, _, _, _, _, _, _, _, _, _, _, _, _, _, _, _, _, _, _, _, _, _, _, _, _, _, _, _, _, _, rfl⟩)
          | true =>
            have hou := HOU.out
            have hol := HOL.out
            rw [hb, if_pos rfl] at hou hol
            have gB7 := Grow.box W7 (.cells [.int .i64 at1].toArray 3)
            have hrd : L1.Rd (W7.alloc (.cells [.int .i64 at1].toArray 3)) (some ⟨W7.heap.size, 0, none⟩) 1 [at1] := L1.Rd.of_blk (Blk.new W7 3 [.int .i64 at1]) rfl
            obtain ⟨va9, vc9, W9, hr9, ho9, g9, su9⟩ := app_su (c0 := 1) (HS7.out.chg gB7 id) (HW7.out.trans gB7) (HO7.out.grow gB7) hrd (by rw [List.length_append, HLL.out]; have := HOL.out; have := HPOS.out; have := HLN.out; omega)
            obtain ⟨M9, hM9⟩ : ∃ M9, (os.take l ++ H0 ++ [at1]).length = M9 := ⟨_, rfl⟩
            rw [hM9] at hr9 ho9
            have HN1 := hide (HLB.out.take HSR.out HOK.out HPOS.out.1 (by rw [HLN.out]; exact HOS.out) HX.out HQ.out (c0 := vc9) (a := va9) (n' := M9) su9 (by rw [HLN.out, hou, ← List.append_assoc]; exact ho9) (by rw [HLN.out, hou, ← List.append_assoc]; exact hM9) g9 (outs_in HG.out i))
            have HMS := hide (show 64 * (L.filter fun x => !(@decide (Inm W9 m x.id) (Classical.propDecidable _))).length + M9 < 64 * (L.filter fun x => !(@decide (Inm W m x.id) (Classical.propDecidable _))).length + n1 by
              rw [HN.out _ _ _ _ HN1.out.su, HN.out _ _ _ _ HLB.out.su]
              obtain ⟨hx1, hx2⟩ := nd_some HX.out
              have h1 := not_step (q := q) HSR.out hx1 (by rw [hx2]; exact HQ.out)
              rw [hx2] at h1
              have h2 := hM9
              rw [List.length_append, List.length_append, HLL.out] at h2
              simp only [List.length_singleton] at h2 hol
              have := HPOS.out
              have := HLN.out
              omega)
            have KA9 := hide hr9
            clear hou hol hb gB7 hrd hr9 ho9 g9 su9 hM9
            go_wp2_with (at_builtin; refine wpList_app rfl _ _ 27 rfl (.slice va6 M vc6) (.slice (some ⟨W7.heap.size, 0, none⟩) 1 1) (.slice va9 M9 vc9) _ W9 rfl rfl KA9.out ?_)
            go_step3
            (exact ⟨rfl, m, _, M9, _, _, cnt + 1, _, HN1.out, _, _, _, _, _, _, _, _, _, _, _, _, _, _, _, _, _, _, _, _, _, _, _, _, _, _, _, _, _, _, _, _, _, _, _, _, _, _, _, _, _, _, _, _, _, _, _, _, _, _, _, _, _, _, _, _, _, _, _, _, _, _, rfl⟩)
  · rintro a' W ⟨m, va, n1, vc, os, cnt, q, hlb, u9, u10, u11, u12, u13, u14, u15, u16, u17, u18, u19, u20, u21, u22, u23, u24, u25, u26, u27, u28, u29, u30, u31, u32, u33, u34, u35, u36, u37, u38, u39, u40, u41, u42, u43, u44, u45, u46, u47, u48, u49, u50, u51, u52, u53, u54, u55, u56, u57, u58, u59, u60, u61, u62, u63, u64, u65, u66, u67, u68, u69, u70, rfl⟩
    clear hmm HST
    rcases Nat.eq_zero_or_pos n1 with h0 | hpos
    · subst h0
      have q1 : decide ((-1 : Int) < 0) = true := by decide
      have HLB := hide hlb
      have hos : os = [] := List.eq_nil_of_length_eq_zero hlb.ln
      subst hos
      clear hlb
      go_wp2_with fail
      simp only [Exit.jump]
      go_ret
      have hq : q = f := HLB.out.op.done.eq HF.out
      subst hq
      exact ⟨m, cnt, rfl, HLB.out.su, HLB.out.cn, HLB.out.gw⟩
    · obtain ⟨g, i, rfl, hg, hgm, hci, hnc, hii, hos, hcut⟩ := hlb.last hpos
      have HLB := hide hlb
      have hbd : n1 ≤ 40000000 := by have := hlb.len; have := hlb.bd; have := HL.out; omega
      obtain ⟨l, hln⟩ : ∃ l, n1 - 1 = l := ⟨_, rfl⟩
      rw [hln] at hci hos hcut
      have hw1 : IntKind.i64.wrap ((n1 : Int) - 1) = (l : Int) := (IntWalk.i64_in _ (by omega)).trans (by omega)
      have hw2 : wrap64 ((n1 : Int) - 1) = (l : Int) := by rw [wrap64_id _ (by omega)]; omega
      have q1 : decide ((l : Int) < 0) = false := by simp
      have q2 : l < n1 := by omega
      have q3 : l ≤ vc := by omega
      have hlook := hlb.su.look hii
      have HLN := hide hln
      have HPOS := hide (And.intro hpos hbd)
      have HOS := hide hos
      have HCUT := hide hcut
      have HII := hide hii
      have gB := Grow.box W (.cells #[] 122)
      cases hq : q i with
      | true =>
        rw [hq] at hlook
        have HN1 := hide (HLB.out.skip hpos (by rw [hln]; exact hcut) (by rw [hln]; exact hos) (.inl hq) gB)
        rw [hln] at HN1
        have HMS := hide (show 64 * (L.filter fun x => !(@decide (Inm (W.alloc (.cells #[] 122)) m x.id) (Classical.propDecidable _))).length + l < 64 * (L.filter fun x => !(@decide (Inm W m x.id) (Classical.propDecidable _))).length + n1 by
          rw [HN.out _ _ _ _ HN1.out.su, HN.out _ _ _ _ HLB.out.su]
          omega)
        clear hlb hos hcut hln hpos hbd hii hq hg hgm hnc gB
        go_wp2_with fail
        go_step3
        (exact ⟨rfl, ⟨m, _, l, _, _, cnt, q, HN1.out, _, _, _, _, _, _, _, _, _, _, _, _, _, _, _, _, _, _, _, _, _, _, _, _, _, _, _, _, _, _, _, _, _, _, _, _, _, _, _, _, _, _, _, _, _, _, _, _, _, _, _, _, _, _, _, _, _, _, _, _, _, _, rfl⟩, HMS.out⟩)
      | false =>
        rw [hq] at hlook
        have HQ := hide hq
        have HW1 := hide (HLB.out.gw.trans gB)
        have HGB := hide gB
        have HG1 := hide (HG.out.grow HW1.out)
        have HGM := hide hgm
        cases hn : nd L i with
        | none =>
          have HND := hide (node_no HG1.out HII.out hn)
          have HSK := hide (fun (W' : World) (c : Grow W W') => HLB.out.skip hpos (by rw [hln]; exact hcut) (by rw [hln]; exact hos) (.inr hn) c)
          rw [hln] at HSK
          clear hlb hos hcut hln hpos hbd hii hq hg hgm hnc gB hn
          go_wp2_with fail
          refine HND.out.mono ?_
          rintro e W2 ⟨rfl, c2⟩
          have HN1 := hide (HSK.out (W2.alloc (.cells #[.int .i64 0, .int .i64 0, .slice none 0 0, .slice none 0 0, .bool false] 38)) ((HGB.out.trans c2).alloc _))
          have HMS := hide (show 64 * (L.filter fun x => !(@decide (Inm (W2.alloc (.cells #[.int .i64 0, .int .i64 0, .slice none 0 0, .slice none 0 0, .bool false] 38)) m x.id) (Classical.propDecidable _))).length + l < 64 * (L.filter fun x => !(@decide (Inm W m x.id) (Classical.propDecidable _))).length + n1 by
            rw [HN.out _ _ _ _ HN1.out.su, HN.out _ _ _ _ HLB.out.su]
            omega)
          clear c2
          go_wp2_with fail
          go_step3
          (exact ⟨rfl, ⟨m, _, l, _, _, cnt, q, HN1.out, _, _, _, _, _, _, _, _, _, _, _, _, _, _, _, _, _, _, _, _, _, _, _, _, _, _, _, _, _, _, _, _, _, _, _, _, _, _, _, _, _, _, _, _, _, _, _, _, _, _, _, _, _, _, _, _, _, _, _, _, _, _, rfl⟩, HMS.out⟩)
        | some x =>
          have HND := hide (node_yes HG1.out HII.out hn)
          have HX := hide hn
          have hll : (os.take l).length = l := by have := HLB.out.ln; simp; omega
          have HLL := hide hll
          obtain ⟨H0, hH0⟩ : ∃ H0, hldX cs L i = H0 := ⟨_, rfl⟩
          obtain ⟨⟨at1, ak1⟩, hax⟩ : ∃ pr : Int × Int, aimX cs L i = pr := ⟨_, rfl⟩
          have hou : outs cs L lev i = H0 ++ (if ldB ak1 lev then [at1] else []) := by unfold outs; rw [hH0, hax]
          have hol := outs_len (cs := cs) (lev := lev) HOK.out i
          rw [hou, List.length_append] at hol
          have HOU := hide hou
          have HOL := hide hol
          have HH0 := hide hH0
          have HAX := hide hax
          clear hlb hos hln hpos hbd hii hq hg hgm hnc gB hn hll hH0 hax hou hol hcut
          go_wp2_with fail
          refine HND.out.mono ?_
          rintro e W2 ⟨ar, cr, ad, cd, rfl, -, c2⟩
          have g3 : Grow W (W2.alloc (.cells #[.int .i64 x.id, .int .i64 x.c, .slice ar x.refs.length cr, .slice ad x.data.length cd, .bool x.fin] 38)) := (HGB.out.trans c2).alloc _
          obtain ⟨W4, hput, hsu4, c4⟩ := (HLB.out.su.chg g3 id).put HII.out (by have := HLB.out.bd; have := HL.out; unfold maxLen; omega)
          have gw4 : Grow w W4 := (HLB.out.gw.trans g3).step c4 fun k hk e => by have := HLB.out.mg; omega
          have ol4 : OL W4 w.heap.size (.slice (some ⟨g, 0, none⟩) l vc) (os.take l) := (HCUT.out.grow g3).chg c4 fun k hk e => HGM.out (show g = m by rw [← e]; injection hk)
          have HHO := hide (holds_gs (HG.out.grow gw4) HII.out)
          rw [HH0.out] at HHO
          have HS4 := hide hsu4
          have HO4 := hide ol4
          have HW4 := hide gw4
          clear c2 g3 hsu4 c4 gw4 ol4
          go_wp2_with fail
          refine HHO.out.mono ?_
          rintro e W5 ⟨ha, hc5, rfl, hrow, c5⟩
          obtain ⟨va6, vc6, W6, hr6, ho6, g6, su6⟩ := app_su (c0 := hc5) (HS4.out.chg c5 id) (HW4.out.trans c5) (HO4.out.grow c5) (own_rd hrow) (by have := HLL.out; have := HOL.out; have := HPOS.out; omega)
          obtain ⟨M, hM⟩ : ∃ M, (os.take l ++ H0).length = M := ⟨_, rfl⟩
          rw [hM] at hr6 ho6
          have KA := hide hr6
          have HM := hide hM
          have HO6 := hide ho6
          have HW6 := hide g6
          have HS6 := hide su6
          have HAI := hide (aim_gs (HG.out.grow g6) HII.out)
          rw [HAX.out] at HAI
          clear c5 hrow hr6 hM ho6 g6 su6 hput
          go_wp2_with (at_builtin; refine wpList_app rfl _ _ 27 rfl (.slice (some ⟨g, 0, none⟩) l vc) (.slice ha H0.length hc5) (.slice va6 M vc6) _ W6 rfl rfl KA.out ?_)
          clear hci hw1 hw2 q1 q2 q3
          refine HAI.out.mono ?_
          rintro e W7 ⟨rfl, c7⟩
          dsimp only
          have HS7 := hide (HS6.out.chg c7 id)
          have HO7 := hide (HO6.out.grow c7)
          have HW7 := hide (HW6.out.trans c7)
          clear c7
          go_wp2_with fail
          refine (leads_any _ _ _).mono ?_
          rintro e w' ⟨rfl, rfl⟩
          cases hb : ldB ak1 lev with
          | false =>
            have hou := HOU.out
            have hol := HOL.out
            rw [hb, if_neg (by simp), List.append_nil] at hou
            have HN1 := hide (HLB.out.take HSR.out HOK.out HPOS.out.1 (by rw [HLN.out]; exact HOS.out) HX.out HQ.out (c0 := vc6) (a := va6) (n' := M) HS7.out (by rw [HLN.out, hou]; exact HO7.out) (by rw [HLN.out, hou]; exact HM.out) HW7.out (outs_in HG.out i))
            have HMS := hide (show 64 * (L.filter fun x => !(@decide (Inm W7 m x.id) (Classical.propDecidable _))).length + M < 64 * (L.filter fun x => !(@decide (Inm W m x.id) (Classical.propDecidable _))).length + n1 by
              rw [HN.out _ _ _ _ HN1.out.su, HN.out _ _ _ _ HLB.out.su]
              obtain ⟨hx1, hx2⟩ := nd_some HX.out
              have h1 := not_step (q := q) HSR.out hx1 (by rw [hx2]; exact HQ.out)
              rw [hx2] at h1
              have h2 := HM.out
              rw [List.length_append, HLL.out] at h2
              have := HPOS.out
              have := HLN.out
              omega)
            clear hou hol hb
            go_wp2_with fail
            go_step3
            (exact ⟨rfl, ⟨m, _, M, _, _, cnt + 1, _, HN1.out, _, _, _, _, _, _, _, _, _, _, _, _, _, _, _, _, _, _, _, _, _, _, _, _, _, _, _, _, _, _, _, _, _, _, _, _, _, _, _, _, _, _, _, _, _, _, _, _, _, _, _, _, _, _, _, _, _, _, _, _, _, _, rfl⟩, HMS.out⟩)
          | true =>
            have hou := HOU.out
            have hol := HOL.out
            rw [hb, if_pos rfl] at hou hol
            have gB7 := Grow.box W7 (.cells [.int .i64 at1].toArray 3)
            have hrd : L1.Rd (W7.alloc (.cells [.int .i64 at1].toArray 3)) (some ⟨W7.heap.size, 0, none⟩) 1 [at1] := L1.Rd.of_blk (Blk.new W7 3 [.int .i64 at1]) rfl
            obtain ⟨va9, vc9, W9, hr9, ho9, g9, su9⟩ := app_su (c0 := 1) (HS7.out.chg gB7 id) (HW7.out.trans gB7) (HO7.out.grow gB7) hrd (by rw [List.length_append, HLL.out]; have := HOL.out; have := HPOS.out; have := HLN.out; omega)
            obtain ⟨M9, hM9⟩ : ∃ M9, (os.take l ++ H0 ++ [at1]).length = M9 := ⟨_, rfl⟩
            rw [hM9] at hr9 ho9
            have HN1 := hide (HLB.out.take HSR.out HOK.out HPOS.out.1 (by rw [HLN.out]; exact HOS.out) HX.out HQ.out (c0 := vc9) (a := va9) (n' := M9) su9 (by rw [HLN.out, hou, ← List.append_assoc]; exact ho9) (by rw [HLN.out, hou, ← List.append_assoc]; exact hM9) g9 (outs_in HG.out i))
            have HMS := hide (show 64 * (L.filter fun x => !(@decide (Inm W9 m x.id) (Classical.propDecidable _))).length + M9 < 64 * (L.filter fun x => !(@decide (Inm W m x.id) (Classical.propDecidable _))).length + n1 by
              rw [HN.out _ _ _ _ HN1.out.su, HN.out _ _ _ _ HLB.out.su]
              obtain ⟨hx1, hx2⟩ := nd_some HX.out
              have h1 := not_step (q := q) HSR.out hx1 (by rw [hx2]; exact HQ.out)
              rw [hx2] at h1
              have h2 := hM9
              rw [List.length_append, List.length_append, HLL.out] at h2
              simp only [List.length_singleton] at h2 hol
              have := HPOS.out
              have := HLN.out
              omega)
            have KA9 := hide hr9
            clear hou hol hb gB7 hrd hr9 ho9 g9 su9 hM9
            go_wp2_with (at_builtin; refine wpList_app rfl _ _ 27 rfl (.slice va6 M vc6) (.slice (some ⟨W7.heap.size, 0, none⟩) 1 1) (.slice va9 M9 vc9) _ W9 rfl rfl KA9.out ?_)
            go_step3
            (exact ⟨rfl, ⟨m, _, M9, _, _, cnt + 1, _, HN1.out, _, _, _, _, _, _, _, _, _, _, _, _, _, _, _, _, _, _, _, _, _, _, _, _, _, _, _, _, _, _, _, _, _, _, _, _, _, _, _, _, _, _, _, _, _, _, _, _, _, _, _, _, _, _, _, _, _, _, _, _, _, _, rfl⟩, HMS.out⟩)
end
end Go.Proofs.YtjfpjnhlnoiekaaGreat.L10
/- What is reached within a level: as a list; the strength of a node. Conditions: at most 1000000 roots, fewer than 1000000 nodes. -/
namespace Go.Proofs
open Go.Shelf
def Tryz.keysB_ren : Go.Shelf.Ren := ⟨fun | 7 => 76 | 10 => 92 | n => n, fun | 23 => 121 | 26 => 3 | 3 => 122 | 28 => 95 | 0 => 0 | 27 => 94 | 33 => 125 | 4 => 4 | n => n, fun | n => n⟩
theorem Tryz.keysB : Go.Proofs.SlLaysZI.n7 Tryz.prog Tryz.keysB_ren := {
  mixed := by kernel_rfl
  f7 := ⟨Tryz.f76.name, by decide, Tryz.func76.trans (congrArg some (by kernel_rfl))⟩
  f10 := ⟨Tryz.f92.name, by decide, Tryz.func92.trans (congrArg some (by kernel_rfl))⟩
  t0 := Tryz.underlying0
  a0 := Tryz.isAgg0
  z0 := Tryz.sizeOf0
  v0 := Tryz.zeroValue0
  t4 := Tryz.underlying4
  a4 := Tryz.isAgg4
  z4 := Tryz.sizeOf4
  v4 := Tryz.zeroValue4
  t23 := Tryz.underlying121
  a23 := Tryz.isAgg121
  z23 := Tryz.sizeOf121
  v23 := Tryz.zeroValue121
  t26 := Tryz.underlying3
  a26 := Tryz.isAgg3
  z26 := Tryz.sizeOf3
  v26 := Tryz.zeroValue3
  t27 := Tryz.underlying94
  a27 := Tryz.isAgg94
  z27 := Tryz.sizeOf94
  v27 := Tryz.zeroValue94
  t28 := Tryz.underlying95
  a28 := Tryz.isAgg95
  z28 := Tryz.sizeOf95
  v28 := Tryz.zeroValue95
  t33 := Tryz.underlying125
  a33 := Tryz.isAgg125
  z33 := Tryz.sizeOf125
  v33 := Tryz.zeroValue125 }
end Go.Proofs
namespace Go.Proofs.YtjfpjnhlnoiekaaGreat.L10
open Go.ChangeShapes Go.WideShapes Go.ChangeAt Go.RowKit Go.Maps Go.Sort Go.Shelf
open Go.Proofs.YtjfpjnhlnoiekaaGreat.L9 (Nd nd GS In64 Srt nd_some nd_none nd_mem own_rd ptr Su SaysU owns_size keys_size sortsA sort_of)
open Go.Proofs.YtjfpjnhlnoiekaaGreat.L5 (Cl clAt isRf)
set_option linter.unusedVariables false
section
variable {w W : World} {cs : List Cl} {L : List Nd} {lev i : Int} {ss zs ids : List Int} {f : Int → Bool} {m n c cnt z p : Nat} {a : Option Addr} {S : Nat → Prop}
theorem su_perm {D : DataW Unit} (ho : W.ownsMap Tryz.prog 3 unitElem m (size D) D) (hk : SaysU D f) (hid : ∀ x, f x = true ↔ x ∈ ids) (hn : ids.Nodup) : ids.Perm (intKeys D) := by
  obtain ⟨es, hD, hpw, _⟩ := ho.entries L9.keyI
  obtain ⟨es', hD', hko⟩ := ho.keysOf
  obtain rfl : es = es' := by rw [hD] at hD'; simpa using hD'
  subst hD
  refine perm_intKeys hpw (fun p hp => by obtain ⟨v, hv⟩ := hko p hp; obtain ⟨x, _, hx, _⟩ := Maps.keyOf_i64 Tryz.underlying3 hv; exact ⟨x, hx⟩) hn fun x => ?_
  rw [← hid x, hk x]
/-- slices.Sorted(maps.Keys(set)). -/
theorem keys_sorted (h : Su W m cnt f) (hid : ∀ x, f x = true ↔ x ∈ ids) (hs : ids.Pairwise (· < ·)) (hl : ids.length < 1000000) :
    (CallsIn Fence.wide 5 Tryz.prog 76 #[.map (some m)] W fun e w' => e = .returned (.func (.func 92) #[] #[.pointer (some ⟨W.heap.size, 0, none⟩)]) ∧ w' = W.alloc (.cells #[.map (some m)] 121)) ∧
    CallsIn Fence.wide 5 Tryz.prog 43 #[.func (.func 92) #[] #[.pointer (some ⟨W.heap.size, 0, none⟩)]] (W.alloc (.cells #[.map (some m)] 121)) fun e w' => ∃ v, e = .returned v ∧ OL w' W.heap.size v ids ∧ Grow W w' := by
  obtain ⟨D, ho', hk⟩ := h
  have ho := owns_size ho'
  have hbl := ho.lt
  have hnd : ids.Nodup := hs.imp fun h => by omega
  have hp := su_perm ho hk hid hnd
  have hsz : Maps.size D = ids.length := by rw [← keys_size, ← hp.length_eq]
  refine ⟨AnyZI.keys_in Tryz.keysB Fence.wide 5 trivial rfl (some m) W, ?_⟩
  have hseq : SeqGives Fence.wide 2 Tryz.prog 92 #[.pointer (some ⟨W.heap.size, 0, none⟩)] encZ (fun ss => ss.Perm (intKeys D)) (Maps.size D) (W.alloc (.cells #[.map (some m)] 121)) :=
    AnyZI.keys_gives (ρ := Tryz.keysB_ren) { Tryz.keysB with } Fence.wide _ trivial rfl (by omega) W.heap.size m (Maps.size D) D _ (by simp) (by simp) (by
      obtain ⟨es, clock, hb, Ft, hs, hD⟩ := ho
      exact ⟨es, clock, (Below.heap_alloc _ _ m hbl).trans hb, Ft, hs, hD⟩)
  have cS := AnyZI.sorted_in Tryz.sortedA Fence.wide 5 trivial trivial trivial trivial rfl (by omega) (sortsA _) (enters_of Tryz.func63 (by kernel_rfl) rfl) 92 #[.pointer (some ⟨W.heap.size, 0, none⟩)] trivial (enters_of Tryz.func92 (by kernel_rfl) rfl) _ _ (by rw [hsz]; unfold maxLen; omega) (by rw [hsz]; omega) _ hseq
  refine cS.mono ?_
  rintro e w' ⟨v, ss, rfl, hS, hrow, hnil, hb⟩
  have hpp := hS.trans hp.symm
  have hln : ss.length = ids.length := hpp.length_eq
  have hsr := sort_of hpp hs
  rw [hsr, hln] at hrow
  exact ⟨v, rfl, ownsRow_base_a hrow (by simp), (Grow.box _ _).trans (L9.Chg.of_b hb)⟩
theorem clL_srt (hs : Srt L) : (clL L f).Pairwise (· < ·) := by
  unfold clL
  exact List.pairwise_map.2 (List.Pairwise.sublist List.filter_sublist hs)
theorem clL_len (L : List Nd) (f : Int → Bool) : (clL L f).length ≤ L.length := by unfold clL; rw [List.length_map]; exact List.length_filter_le _ _
set_option maxRecDepth 100000 in
set_option maxHeartbeats 1000000 in
theorem within_any (h : GS w z S p cs L) (hl : L.length < 1000000) (lev : Int) (hz : L1.Rd w a n zs) (hn : n ≤ 1000000) (hi : ∀ i ∈ zs, In64 i) (hf : IsRc cs L lev (srcW L lev zs) f) :
    Calls Tryz.prog 69 #[ptr p, .int .i64 lev, .slice a n c] w fun e w' => ∃ a' c', e = .returned (.slice a' (clL L f).length c') ∧ OL w' w.heap.size (.slice a' (clL L f).length c') (clL L f) ∧ Grow w w' := by
  have hid : ∀ x, f x = true ↔ x ∈ clL L f := fun x => (clL_mem hf).symm
  have hsr := clL_srt (f := f) h.srt
  have hln : (clL L f).length < 1000000 := by have := clL_len L f; omega
  refine (callsIn_wide (n := 6)).1 ?_
  have cR : CallsIn Fence.wide 5 Tryz.prog 77 #[ptr p, .int .i64 lev, .slice a n c] w _ := callsIn_wide.2 (reached_any (c := c) h hl lev hz hn hi hf)
  have hfK : Fence.wide.fn 76 := trivial
  have hfS : Fence.wide.fn 43 := trivial
  have hfA : Fence.wide.fn 77 := trivial
  clear h hl hz hn hi hf
  refine callsIn_of_wp Tryz.func69 rfl trivial ?_ rfl
  simp only [Tryz.ntmps69, List.size_toArray, List.length_cons, List.length_nil, Nat.reduceAdd, Nat.reduceSub, Array.replicate_succ, Array.replicate_zero, List.push_toArray, List.append_toArray, List.nil_append, List.cons_append]
  gi_wp2_with (first
    | (gi_at_call 77; refine cR.mono ?_; rintro e w1 ⟨m, cnt, rfl, hsu, hcnt, hg1⟩; obtain ⟨cK, cS⟩ := keys_sorted hsu hid hsr hln)
    | (gi_at_call 76; refine cK.mono ?_; rintro e w' ⟨rfl, rfl⟩)
    | (gi_at_call 43; refine cS.mono ?_; rintro e w' ⟨v, rfl, ho, hg2⟩))
  go_ret
  obtain ⟨a', c', rfl⟩ := own_len ho
  exact ⟨a', c', rfl, OL.lower ho hg1.size, hg1.trans hg2⟩
set_option maxRecDepth 100000 in
theorem reach_any (h : GS w z S p cs L) (hl : L.length < 1000000) (hz : L1.Rd w a n zs) (hn : n ≤ 1000000) (hi : ∀ i ∈ zs, In64 i) (hf : IsRc cs L 1 (srcC L 1 zs) f) :
    Calls Tryz.prog 52 #[ptr p, .slice a n c] w fun e w' => ∃ a' c', e = .returned (.slice a' (clL L f).length c') ∧ OL w' w.heap.size (.slice a' (clL L f).length c') (clL L f) ∧ Grow w w' := by
  have HW := hide (within_any (c := c) h hl 1 hz hn hi (by rw [srcW_pos (by decide)]; exact hf))
  clear h hl hz hn hi hf
  obtain ⟨M, hM⟩ : ∃ M, (clL L f).length = M := ⟨_, rfl⟩
  have HM := hide hM
  rw [hM] at HW
  clear hM
  go_enter Tryz.func52, Tryz.ntmps52
  go_wp2_with fail
  refine HW.out.mono ?_
  rintro e w1 ⟨a', c', rfl, ho, hg⟩
  have HO := hide ho
  have HG := hide hg
  clear ho hg
  go_wp2
  go_ret
  have hM := HM.out
  subst hM
  exact ⟨a', c', rfl, HO.out, HG.out⟩
theorem ofX_at {f : Int → Int → Bool} {l : Nat} (h1 : 1 ≤ l) (h5 : l ≤ 5) (h : ∀ j : Nat, 1 ≤ j → j < l → f j i = false) (hl : f l i = true) : ofX f i = l := by
  have a1 := h 1
  have a2 := h 2
  have a3 := h 3
  have a4 := h 4
  obtain rfl | rfl | rfl | rfl | rfl : l = 1 ∨ l = 2 ∨ l = 3 ∨ l = 4 ∨ l = 5 := by omega
  all_goals (unfold ofX; simp_all)
theorem ofX_none {f : Int → Int → Bool} (h : ∀ j : Nat, 1 ≤ j → j < 6 → f j i = false) : ofX f i = 0 := by
  have a1 := h 1
  have a2 := h 2
  have a3 := h 3
  have a4 := h 4
  have a5 := h 5
  unfold ofX
  simp_all
end
end Go.Proofs.YtjfpjnhlnoiekaaGreat.L10
