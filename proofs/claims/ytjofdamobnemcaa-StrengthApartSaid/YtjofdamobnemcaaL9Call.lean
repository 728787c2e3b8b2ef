/- Graphs: New, SetRef, SetNum and Done: what they answer and do, whatever the argument. Conditions: the numbers fit an int. -/
import Derived.Test.YtjofdamobnemcaaL9Gr
namespace Go.Proofs.Ytjofdamobnemcaa.L9
open Go.ChangeShapes Go.WideShapes Go.ChangeAt Go.RowKit Go.Maps
open Go.Proofs.Ytjofdamobnemcaa.L5 (Cl clV rtB Tb clAt shX shR shD woV hoB IsCls newX isRf)
set_option linter.unusedVariables false

abbrev ptr (p : Nat) : Value := .pointer (some ⟨p, 0, none⟩)
section
variable {w : World} {z p m tb : Nat} {S : Nat → Prop} {f : Int → Option Nat} {ow : Nat → Int} {cs : List Cl} {L : List Nd} {x : Nd} {i : Int}
theorem all_g (h : Gr w z S p m tb f ow cs L) : Calls Try.prog 35 #[ptr p] w fun e w' => e = .returned (.map (some m)) ∧ w = w' := by
  have c1 := h.cell1
  clear h
  go_enter Try.func35, Try.ntmps35
  go_wp2
  go_ret
  exact ⟨rfl, rfl⟩
theorem all_nil (w : World) : Calls Try.prog 35 #[.pointer none] w fun e w' => e = .returned (.map none) ∧ w = w' := by
  go_enter Try.func35, Try.ntmps35
  go_wp2
  go_ret
  exact ⟨rfl, rfl⟩
theorem look_none (h : Gr w z S p m tb f ow cs L) (hi : In64 i) (hn : nd L i = none) : (Instr.lookup 76 (.map (some m)) (.int .i64 i) false).run Try.prog w = .ok (.pointer none) w := by
  have := h.map.look hi
  rwa [h.f_none hn] at this
theorem look_some (h : Gr w z S p m tb f ow cs L) (hi : In64 i) (hn : nd L i = some x) : ∃ b br bd, f i = some b ∧ (Instr.lookup 76 (.map (some m)) (.int .i64 i) false).run Try.prog w = .ok (ptr b) w ∧ Nod w S ow b br bd x := by
  have hl := h.map.look hi
  obtain ⟨b, hb, br, bd, hx⟩ := h.f_some hn
  rw [hb] at hl
  exact ⟨b, br, bd, hb, hl, hx⟩

/-- New. -/
theorem new_g {base : Nat} {v : Value} (ht : Tb w base (some ⟨tb, 0, none⟩) v cs) (hz : tb < z ∧ ∀ k, v.ownBlock = some k → k < z) (hzw : z ≤ w.heap.size) (hl : cs.length ≤ 100) (hr : cs.all Cl.rt = true) :
    Calls Try.prog 16 #[ptr tb] w fun e w' => e = .returned (ptr (w.heap.size + 1)) ∧ Grow w w' ∧
      Gr w' z (fun k => k = w.heap.size ∨ k = w.heap.size + 1) (w.heap.size + 1) w.heap.size tb (fun _ => none) (fun _ => 0) cs [] := by
  have HT := hide ht
  have hmm := @run_makeMap Try.prog
  clear ht
  go_enter Try.func16, Try.ntmps16
  go_wp2
  go_ret
  have hsz : (w.alloc (.map #[] 0)).heap.size = w.heap.size + 1 := by simp
  have hg : Grow w ((w.alloc (.map #[] 0)).alloc (.cells #[ptr tb, .map (some w.heap.size)] 78)) := (Grow.box _ _).alloc _
  have hb := Blk.new (w.alloc (.map #[] 0)) 78 [ptr tb, .map (some w.heap.size)]
  rw [hsz] at hb
  refine ⟨rfl, hg, hb, (Mn.made w).chg (Grow.box _ _) id, .inr rfl, .inl rfl, by omega, ⟨rfl, rfl⟩, ?_, by simp, fun i hi => absurd rfl hi, List.Pairwise.nil, by simp, ⟨base, v, HT.out.grow hg, hz⟩, hl, hr⟩
  intro k hk
  have : ((w.alloc (.map #[] 0)).alloc (.cells #[ptr tb, .map (some w.heap.size)] 78)).heap.size = w.heap.size + 1 + 1 := by simp
  rw [this]
  omega

/-- SetRef, SetNum, Done: the error's number; the nodes behind it. -/
def srX (L : List Nd) (i k t : Int) : Int := match nd L i with
  | none => 7
  | some x => if k < 0 ∨ (x.refs.length : Int) ≤ k then 1 else if t ≠ 0 ∧ nd L t = none then 7 else 0
def srL (L : List Nd) (i k t : Int) : List Nd := if srX L i k t = 0 then updN L i fun x => { x with refs := x.refs.set k.toNat t } else L
def snX (L : List Nd) (i k : Int) : Int := match nd L i with
  | none => 7
  | some x => if k < 0 ∨ (x.data.length : Int) ≤ k then 1 else 0
def snL (L : List Nd) (i k t : Int) : List Nd := if snX L i k = 0 then updN L i fun x => { x with data := x.data.set k.toNat t } else L
def dnX (L : List Nd) (i : Int) : Int := match nd L i with
  | none => 7
  | some x => 0
def dnL (L : List Nd) (i : Int) : List Nd := if dnX L i = 0 then updN L i fun x => { x with fin := false } else L

theorem srX_ok (hn : nd L i = some x) {n : Nat} {t : Int} (hk : ¬ ((n : Int) < 0 ∨ (x.refs.length : Int) ≤ n)) (h0 : ¬ (t ≠ 0 ∧ nd L t = none)) : srX L i n t = 0 ∧ srL L i n t = updN L i fun x => { x with refs := x.refs.set n t } := by
  have e : srX L i n t = 0 := by
    simp only [srX, hn]
    rw [if_neg hk, if_neg h0]
  refine ⟨e, ?_⟩
  unfold srL
  rw [if_pos e]
  rfl
theorem snX_ok (hn : nd L i = some x) {n : Nat} {t : Int} (hk : ¬ ((n : Int) < 0 ∨ (x.data.length : Int) ≤ n)) : snX L i n = 0 ∧ snL L i n t = updN L i fun x => { x with data := x.data.set n t } := by
  have e : snX L i n = 0 := by
    simp only [snX, hn]
    rw [if_neg hk]
  refine ⟨e, ?_⟩
  unfold snL
  rw [if_pos e]
  rfl
theorem Nd.Ok.setRef (h : Nd.Ok cs x) (k : Nat) {t : Int} (ht : In64 t) : Nd.Ok cs { x with refs := x.refs.set k t } :=
  ⟨h.id1, h.id2, by simpa using h.rl, h.dl, fun r hr => by
    rcases List.mem_or_eq_of_mem_set hr with h1 | h1
    · exact h.rw_ r h1
    · rw [h1]; exact ht, by simpa using h.cl⟩
theorem Nd.Ok.setNum (h : Nd.Ok cs x) (k : Nat) (t : Int) : Nd.Ok cs { x with data := x.data.set k t } :=
  ⟨h.id1, h.id2, h.rl, by simpa using h.dl, h.rw_, h.cl⟩
theorem Nd.Ok.done (h : Nd.Ok cs x) : Nd.Ok cs { x with fin := false } := ⟨h.id1, h.id2, h.rl, h.dl, h.rw_, h.cl⟩
theorem Gr.ofNod {b br bd k0 : Nat} {u : Value} {a : Nat} (h : Gr w z S p m tb f ow cs L) (hn : nd L i = some x) (hb : f i = some b) (hx : Nod w S ow b br bd x) (ha : a = b ∨ a = br ∨ a = bd) (g : Nd → Nd) (hg : ∀ x, (g x).id = x.id) (hok : (g x).Ok cs)
    (hx' : Nod (w.setCell ⟨a, k0, none⟩ u) S ow b br bd (g x)) : Gr (w.setCell ⟨a, k0, none⟩ u) z S p m tb f ow cs (updN L i g) ∧ Chg S w (w.setCell ⟨a, k0, none⟩ u) := by
  have c : Chg (· = a) w (w.setCell ⟨a, k0, none⟩ u) := (Chg.refl _ _).set1 _ _
  have hq : S a ∧ ow a = i := by
    obtain ⟨_, _, _, _, ⟨o1, o2, o3⟩, s1, s2, s3⟩ := hx
    have hi := (nd_some hn).2
    rcases ha with rfl | rfl | rfl
    · exact ⟨s1, o1.trans hi⟩
    · exact ⟨s2, o2.trans hi⟩
    · exact ⟨s3, o3.trans hi⟩
  exact ⟨h.upd hn hb g hg hok c (fun k hk => by rw [hk]; exact hq) ⟨br, bd, hx'⟩, c.mono fun k _ hk => by rw [hk]; exact hq.1⟩
set_option maxRecDepth 100000 in
set_option maxHeartbeats 1000000 in
theorem setref_any (h : Gr w z S p m tb f ow cs L) {k t : Int} (hi : In64 i) (hk : In64 k) (ht : In64 t) :
    Calls Try.prog 19 #[ptr p, .int .i64 i, .int .i64 k, .int .i64 t] w fun e w' => e = .returned (.int .i64 (srX L i k t)) ∧ Gr w' z S p m tb f ow cs (srL L i k t) ∧ Chg S w w' := by
  have HG := hide h
  cases hn : nd L i with
  | none =>
    have HX := hide (show srX L i k t = 7 ∧ srL L i k t = L by simp [srX, srL, hn])
    have hl := look_none h hi hn
    clear h
    go_enter Try.func19, Try.ntmps19
    go_wp2_with fail
    refine (all_g HG.out).mono ?_
    rintro e w' ⟨rfl, rfl⟩
    go_wp2
    go_ret
    exact ⟨ret_int HX.out.1.symm, by rw [HX.out.2]; exact HG.out, Chg.refl _ _⟩
  | some x =>
    obtain ⟨b, br, bd, hb, hl, hx⟩ := look_some h hi hn
    obtain ⟨-, -, c2, -, -, -⟩ := hx.cells
    have HO := hide (h.ok x (nd_some hn).1)
    have hg1 := h.cell1
    by_cases hk0 : k < 0 ∨ (x.refs.length : Int) ≤ k
    · have HX := hide (show srX L i k t = 1 ∧ srL L i k t = L by simp [srX, srL, hn, hk0])
      clear h hx
      generalize x.refs.length = n at *
      rcases hk0 with hk0 | hk0
      · have q1 : decide (k < 0) = true := by simpa using hk0
        clear hk0
        go_enter Try.func19, Try.ntmps19
        go_wp2_with fail
        refine (all_g HG.out).mono ?_
        rintro e w' ⟨rfl, rfl⟩
        go_wp2
        go_ret
        exact ⟨ret_int HX.out.1.symm, by rw [HX.out.2]; exact HG.out, Chg.refl _ _⟩
      · have q1 : decide (k < 0) = false := by simp; omega
        have q2 : decide (k ≥ (n : Int)) = true := by simp; omega
        clear hk0
        go_enter Try.func19, Try.ntmps19
        go_wp2_with fail
        refine (all_g HG.out).mono ?_
        rintro e w' ⟨rfl, rfl⟩
        go_wp2
        go_ret
        exact ⟨ret_int HX.out.1.symm, by rw [HX.out.2]; exact HG.out, Chg.refl _ _⟩
    · obtain ⟨n, rfl⟩ := Int.eq_ofNat_of_zero_le (show 0 ≤ k by omega)
      have hkn : n < x.refs.length := by omega
      have q1 : decide ((n : Int) < 0) = false := decide_eq_false (by omega)
      have q2 : decide ((n : Int) ≥ (x.refs.length : Int)) = false := by simp; omega
      by_cases ht0 : t = 0
      · subst ht0
        have HX := hide (srX_ok hn hk0 (t := 0) (by simp))
        have HR := hide (h.ofNod hn hb hx (.inr (.inl rfl)) (k0 := n) (fun x => { x with refs := x.refs.set n 0 }) (fun _ => rfl) (HO.out.setRef n ht) (hx.setRef n 0))
        have cr := hx.2.1.cell n
        rw [ints_get _ _ hkn] at cr
        have fr := hx.2.1.frozen n
        clear h hk0 hx
        generalize x.refs.length = l at *
        go_enter Try.func19, Try.ntmps19
        go_wp2_with fail
        refine (all_g HG.out).mono ?_
        rintro e w' ⟨rfl, rfl⟩
        go_wp2
        go_ret
        exact ⟨ret_int HX.out.1.symm, by rw [HX.out.2]; exact HR.out.1, HR.out.2⟩
      · cases hnt : nd L t with
        | none =>
          have HX := hide (show srX L i (n : Int) t = 7 ∧ srL L i (n : Int) t = L by
            have e : srX L i n t = 7 := by
              simp only [srX, hn]
              rw [if_neg hk0, if_pos ⟨ht0, hnt⟩]
            exact ⟨e, by unfold srL; rw [if_neg (by rw [e]; decide)]⟩)
          have hlt := look_none h ht hnt
          have q3 : (t != 0) = true := by simpa using ht0
          clear h hk0 hx ht0
          generalize x.refs.length = l at *
          go_enter Try.func19, Try.ntmps19
          go_wp2_with fail
          refine (all_g HG.out).mono ?_
          rintro e w' ⟨rfl, rfl⟩
          go_wp2
          go_ret
          exact ⟨ret_int HX.out.1.symm, by rw [HX.out.2]; exact HG.out, Chg.refl _ _⟩
        | some y =>
          have HX := hide (srX_ok hn hk0 (t := t) (by simp [hnt]))
          have HR := hide (h.ofNod hn hb hx (.inr (.inl rfl)) (k0 := n) (fun x => { x with refs := x.refs.set n t }) (fun _ => rfl) (HO.out.setRef n ht) (hx.setRef n t))
          obtain ⟨b', br', bd', hb', hlt, hx'⟩ := look_some h ht hnt
          have q3 : (t != 0) = true := by simpa using ht0
          have cr := hx.2.1.cell n
          rw [ints_get _ _ hkn] at cr
          have fr := hx.2.1.frozen n
          clear h hk0 hx ht0 hx'
          generalize x.refs.length = l at *
          go_enter Try.func19, Try.ntmps19
          go_wp2_with fail
          refine (all_g HG.out).mono ?_
          rintro e w' ⟨rfl, rfl⟩
          go_wp2
          go_ret
          exact ⟨ret_int HX.out.1.symm, by rw [HX.out.2]; exact HR.out.1, HR.out.2⟩

end
end Go.Proofs.Ytjofdamobnemcaa.L9
