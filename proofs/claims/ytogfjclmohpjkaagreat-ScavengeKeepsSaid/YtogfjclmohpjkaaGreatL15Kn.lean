/- Canon of a world that stands; two appends behind one another. Conditions: its objects end ahead of the last word. -/
import Derived.Test.YtogfjclmohpjkaaGreatL15Md
import Derived.Test.YtogfjclmohpjkaaGreatL15Bd
import Derived.Test.YtogfjclmohpjkaaGreatL15Bp
import Derived.Test.YtogfjclmohpjkaaGreatL15At
namespace Go.Proofs.YtogfjclmohpjkaaGreat.L15
open Go.ChangeShapes Go.WideShapes Go.ChangeAt Go.RowKit
open Go.Proofs.YtogfjclmohpjkaaGreat.L1 (ptr Ar RAr)
open Go.Proofs.YtogfjclmohpjkaaGreat.L5 (Cl IsCls newX Tb)
open Go.Proofs.YtogfjclmohpjkaaGreat.L6 (stV St)
open Go.Proofs.YtogfjclmohpjkaaGreat.L7 (Ct)
set_option linter.unusedVariables false
set_option maxRecDepth 100000
section
variable {w w' W : World} {f : Fx} {A xs zs' rs res fr : List Int} {H : Int} {z yl b g pc mc gc rn rc q zq fn fc cl cp : Nat} {tp ra ca fa : Option Addr} {av rv v : Value} {x : Int} {S : Nat → Bool} {s : Mst}
theorem Seg.len2 {cs : List Cl} {ob : Int → Ob} {L : List Int} : ∀ {a b : Int}, Seg xs cs ob a L b → 2 * (L.length : Int) ≤ b - a := by
  induction L with
  | nil => intro a b h; have : a = b := h; simp; omega
  | cons y L ih =>
    intro a b h
    have h1 := ih h.2.2
    have h2 : 2 ≤ (ob a).sz := by unfold Ob.sz; omega
    simp only [List.length_cons]
    omega
/-- All ends ahead of the last word. -/
def Yg.lo (y : Yg) : Prop := y.OE ≤ 999 ∧ y.EE ≤ 999 ∧ y.FE ≤ 999 ∧ y.TE ≤ 999
theorem Yg.lo.aft {y : Yg} (h : y.lo) (ot tt : Int) : (y.aft ot tt).lo := ⟨h.1, h.2.1, h.2.2.2, h.2.2.1⟩
theorem Mde.ylo (m : Mde w w' f A xs H z yl b tp g pc mc gc av rv) : f.y.lo := by
  have hy := m.bd.y
  have hh := m.bd.h
  dsimp only at hy
  unfold Yg.lo
  omega
theorem Wf.end_ (h : Wf f xs) (hl : f.y.lo) (hx : x ∈ f.all) : x + (f.ob x).sz ≤ 999 := by
  have o := h.ok.o
  have e := h.ok.e
  have k := h.ok.f
  unfold Yg.lo at hl
  rcases List.mem_append.1 hx with hx | hx
  · have := h.so.bd hx; omega
  · rcases List.mem_append.1 hx with hx | hx
    · have := h.se.bd hx; omega
    · have := h.sf.bd hx; omega
theorem Wf.len3 (h : Wf f xs) (hl : f.y.lo) : f.all.length ≤ 10000 := by
  have o := h.ok.o
  have e := h.ok.e
  have k := h.ok.f
  unfold Yg.lo at hl
  have h1 := h.so.len2
  have h2 := h.se.len2
  have h3 := h.sf.len2
  simp only [Fx.all, Fx.YS, List.length_append]
  omega
theorem Sd.canon (d : Sd W f xs z b tp g pc mc gc S) (hn : f.n = 1000) (hl : f.y.lo) (hra : RAr w q zq xs) (hc : IsCls w ca cl cp f.cs) (hf : L1.Rd w fa fn fr) (hfn : fn < 100000) (hfr : ∀ x ∈ fr, x = 0 ∨ x ∈ f.all) (hres : Rch f.ob fr res) :
    Calls Tryz.prog 10 #[rsV q ca cl cp, .slice fa fn fc] w fun e w' => ∃ v, e = .returned v ∧ OL w' w.heap.size v (canL f.ob fr res) ∧ Grow w w' := by
  have hx : xs.length = 1000 := d.wf.n.trans hn
  have hrs : Rs w q zq ca cl cp xs f.cs := ⟨hra, hc, by omega, d.wf.rt⟩
  refine canon_any (L := f.all) (fun W c x hx' => ?_) hf hfn hfr d.wf.cl (fun x hx' => ?_) (d.wf.len3 hl) hres
  · have ha := d.wf.at_ hx'
    have h1 := ha.a1
    have h2 := d.wf.end_ hl hx'
    exact at_any (hrs.grow c) ha (by omega)
  · have := ((d.wf.at_ hx').ok.bd d.wf.rt).2.1
    unfold Ob.sz at this
    omega
/-- Append behind a guard that is on. -/
theorem wpList_appW {P : Program} {ops : Array Oper} {rest : List Oper} {o : Oper} {a : Act} {Q : Exit → Act → World → Prop} {w w' : World} (hw : Region.wanted o (yielded ops a.tmps) = true) (s x : Operand) (t : TypeId)
    (ho : o.op = .call { callee := .builtin .append, args := #[s, x], argTypes := #[t, t] }) (v1 v2 v' : Value) (hs : a.eval s = v1) (hx : a.eval x = v2)
    (hr : (Builtin.append_ #[t, t] o.type #[v1, v2]).run P w = .ok v' w') (h : wpList P ops Q rest (a.put o.dst v') w') : wpList P ops Q (o :: rest) a w := by
  unfold wpList
  rw [if_pos hw]
  left
  unfold Oper.wp
  simp [execOp, ho, resolve, invoke, builtin, hs, hx, hr, Result.andThen]
  exact h
theorem two_apps {w0 W : World} {v0 : Value} {a1 a2 : Option Addr} {n1 n2 c1 c2 : Nat} {ys1 ys2 : List Int} (g : Grow w0 W) (h0 : OL W w0.heap.size v0 []) (r1 : L1.Rd W a1 n1 ys1) (r2 : L1.Rd W a2 n2 ys2) (hl : ∀ x : Addr, a2 = some x → v0.ownBlock ≠ some x.block) (hn1 : n1 ≤ 100000) (hn2 : n2 ≤ 100000) :
    ∃ x1 y1 W1 x2 y2 W2, (Builtin.append_ #[36, 36] 36 #[v0, .slice a1 n1 c1]).run Tryz.prog W = .ok (.slice x1 n1 y1) W1 ∧ (Builtin.append_ #[36, 36] 36 #[.slice x1 n1 y1, .slice a2 n2 c2]).run Tryz.prog W1 = .ok (.slice x2 (n1 + n2) y2) W2 ∧
      L1.Rd W2 x2 (n1 + n2) (ys1 ++ ys2) ∧ Grow w0 W1 ∧ Grow w0 W2 ∧ Chg (fun i => v0.ownBlock = some i) W W2 := by
  have l1 : ys1.length = n1 := r1.1
  have l2 : ys2.length = n2 := r2.1
  obtain ⟨u1, W1, e1, o1, g1, s1⟩ := app_int (c := c1) h0 g.size r1 (by simp; omega)
  have k1 : Grow w0 W1 := Chg.grownOwn g h0 (Nat.le_refl _) g1
  have d1 : Chg (fun i => v0.ownBlock = some i) W W1 := Chg.grown (S := fun i => v0.ownBlock = some i) (Chg.refl _ _) g1 (fun k _ e => e)
  simp only [List.nil_append] at o1
  obtain ⟨u2, W2, e2, o2, g2, s2⟩ := app_int (c := c2) o1 k1.size (r2.chg d1 hl) (by omega)
  have k2 : Grow w0 W2 := Chg.grownOwn k1 o1 (Nat.le_refl _) g2
  have d2 : Chg (fun i => v0.ownBlock = some i) W W2 := d1.step (Chg.grown (S := fun i => u1.ownBlock = some i) (Chg.refl _ _) g2 (fun k _ e => e)) (fun i hi e => by
    rcases s1 with h | h
    · rw [← h]; exact e
    · rw [h] at e; injection e with e; omega)
  obtain ⟨x1, y1, rfl⟩ := own_len o1
  obtain ⟨x2, y2, rfl⟩ := own_len o2
  have hr := own_rd o2
  rw [List.length_append, l1, l2] at e2 hr
  rw [l1] at e1
  exact ⟨x1, y1, W1, x2, y2, W2, e1, e2, hr, k1, k2, d2⟩
end
theorem flat_len {L : List Int} {g : Int → List Int} {k : Nat} (h : ∀ x ∈ L, (g x).length ≤ k) : (L.flatMap g).length ≤ k * L.length := by
  induction L with
  | nil => simp
  | cons a L ih =>
    have h1 := h a (List.mem_cons_self ..)
    have h2 := ih fun x hx => h x (List.mem_cons_of_mem _ hx)
    rw [List.flatMap_cons, List.length_append, List.length_cons, Nat.mul_succ]
    omega
theorem Sd.can_len {W : World} {f : Fx} {xs fr res : List Int} {z b g pc mc gc : Nat} {tp : Option Addr} {S : Nat → Bool} (d : Sd W f xs z b tp g pc mc gc S) (hl : f.y.lo) (hfn : fr.length < 100000) (hfr : ∀ x ∈ fr, x = 0 ∨ x ∈ f.all) (hres : Rch f.ob fr res) : (canL f.ob fr res).length ≤ 1099511627776 := by
  have hsub : ∀ x ∈ res, x ∈ f.all := reach_D (D := fun x => x ∈ f.all) d.wf.cl hres hfr
  have hrl : res.length ≤ 10000 := Nat.le_trans (nodup_len (hres.nodup (adds_nodup _ List.nodup_nil)) hsub) (d.wf.len3 hl)
  have h1 : (res.flatMap fun a => tell (place res) (f.ob a)).length ≤ 40 * res.length := flat_len fun x hx => by
    have := ((d.wf.at_ (hsub x hx)).ok.bd d.wf.rt).2.1
    unfold Ob.sz at this
    unfold tell
    simp only [List.length_append, List.length_map, List.length_cons, List.length_nil]
    omega
  unfold canL
  rw [List.length_append, List.length_map]
  omega
/-- The roots that are told are 0, or objects. -/
theorem run_in {w w' : World} {f : Fx} {xs zs' rs : List Int} {z b g pc mc gc fc tc : Nat} {tp : Option Addr} {v : Value} {s : Mst} (wf : Wf f xs) (R : Ran w w' { f with zs := zs' } z b tp g pc mc gc fc tc v rs s) (hz : ∀ r ∈ zs', r = 0 ∨ r ∈ f.all) : ∀ x ∈ rs, x = 0 ∨ x ∈ (f.aft s rs).all := by
  have wf' := wf.zs zs'
  have hzD := zs_D wf' R.i (rs := rs) hz R.rs
  have e1 : rs = zs'.map (ph f.y s.mv) := rs_map R.n fun j hj => R.rs j hj
  intro x hx
  rw [e1] at hx
  obtain ⟨y, hy, rfl⟩ := List.mem_map.1 hx
  rcases hzD y hy with rfl | h
  · exact .inl (ph_0 wf)
  · have := (ph_src wf' R.i h).1
    exact .inr (by simpa [Fx.all, Fx.YS] using this)
theorem recS_no {y : Yg} {ob : Int → Ob} {f t : Nat} {L : List Int} (h : ∀ o, y.ld o = false) : recS y ob f t L = L3.no := by
  unfold recS
  have : ∀ (L : List Int) (S : Nat → Bool), L.foldl (fun S x => if y.ld (ob x) then L7.tset S f t x else S) S = S := by
    intro L
    induction L with
    | nil => intro S; rfl
    | cons a L ih =>
      intro S
      rw [List.foldl_cons, h, if_neg (by decide)]
      exact ih S
  exact this L _
/-- Without young ones nothing leads to one. -/
theorem ld_none {y : Yg} (h1 : y.ET = y.EF) (h2 : y.FT = y.FF) (o : Ob) : y.ld o = false := by
  unfold Yg.ld
  refine List.any_eq_false.2 fun r _ => ?_
  unfold Yg.isY
  rw [has_not (by omega), has_not (by omega)]
  decide
theorem cds_no (f k : Nat) : L7.cds L3.no f k = [] := by
  induction k with
  | zero => rfl
  | succ k ih => rw [L7.cds, ih]; rfl
/-- What is told of a world before and behind a run, from the roots and some that stay. -/
theorem run_can {w w' : World} {f : Fx} {xs L zs' rs res : List Int} {z b g pc mc gc fc tc : Nat} {tp : Option Addr} {v : Value} {s : Mst} (wf : Wf f xs) (R : Ran w w' { f with zs := zs' } z b tp g pc mc gc fc tc v rs s) (hz : ∀ r ∈ zs', r = 0 ∨ r ∈ f.all) (hL : ∀ x ∈ L, x ∈ f.OS) (hres : Rch f.ob (zs' ++ L) res) :
    Rch s.ob (rs ++ L) (res.map (ph f.y s.mv)) ∧ canL s.ob (rs ++ L) (res.map (ph f.y s.mv)) = canL f.ob (zs' ++ L) res ∧ ∀ x ∈ rs ++ L, x = 0 ∨ x ∈ (f.aft s rs).all := by
  have wf' := wf.zs zs'
  have hi := fin_iso wf' R.i R.d
  have hzD := zs_D wf' R.i (rs := rs) hz R.rs
  have e1 : rs = zs'.map (ph f.y s.mv) := rs_map R.n fun j hj => R.rs j hj
  have e2 : L.map (ph f.y s.mv) = L := by
    have h : L.map (ph f.y s.mv) = L.map id := List.map_congr_left fun x hx => (ph_os wf (hL x hx) : ph f.y s.mv x = x)
    rw [h, List.map_id]
  have hD : ∀ x ∈ zs' ++ L, x = 0 ∨ Dm { f with zs := zs' } s x := fun x hx => by
    rcases List.mem_append.1 hx with h | h
    · exact hzD x h
    · exact .inr (.inl (hL x h))
  have e3 : (zs' ++ L).map (ph f.y s.mv) = rs ++ L := by rw [List.map_append, e2, ← e1]
  refine ⟨?_, ?_, fun x hx => ?_⟩
  · rw [← e3]; exact hi.reach hres hD
  · rw [← e3]; exact hi.can hres hD
  · rw [← e3] at hx
    obtain ⟨y, hy, rfl⟩ := List.mem_map.1 hx
    rcases hD y hy with rfl | h
    · exact .inl (ph_0 wf)
    · have := (ph_src wf' R.i h).1
      exact .inr (by simpa [Fx.all, Fx.YS] using this)
end Go.Proofs.YtogfjclmohpjkaaGreat.L15
