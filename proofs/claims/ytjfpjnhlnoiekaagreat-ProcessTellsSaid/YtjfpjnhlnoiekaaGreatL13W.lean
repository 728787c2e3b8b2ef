/- Reference processing: words that the laws share: what Run answered, in a box; lists that are asked; facts on several runs. Conditions: as each part says. -/
import Derived.Test.YtjfpjnhlnoiekaaGreatL13T
import Derived.Test.YtjfpjnhlnoiekaaGreatL13F
import Derived.Test.YtjfpjnhlnoiekaaGreatL13V
namespace Go.Proofs.YtjfpjnhlnoiekaaGreat.L13
open Go.ChangeShapes Go.WideShapes Go.ChangeAt Go.RowKit
open Go.Proofs.YtjfpjnhlnoiekaaGreat.L9 (Nd nd GS RG Rf Lok In64 Srt nd_some nd_none nd_mem own_rd own_cast ptr hasB hldX aimX)
open Go.Proofs.YtjfpjnhlnoiekaaGreat.L10 (Rc IsRc outs clL fins fnB OL clL_srt has_ol reach_any close_any clL_le rc_nil srcC Pg)
open Go.Proofs.YtjfpjnhlnoiekaaGreat.graphKeeps (Clo nd_ne)
open Go.Proofs.YtjfpjnhlnoiekaaGreat.L5 (Cl clAt isRf IsCls)
set_option linter.unusedVariables false
section
variable {w w' W W' : World} {b n cap : Nat} {a : Option Addr} {xs : List Int} {S : Nat → Prop}
theorem has_n (h : OL W b (.slice a n cap) xs) (hn : xs.length = n) (hi : ∀ i ∈ xs, In64 i) (hl : n ≤ 1000000) (y : Int) :
    Calls Tryz.prog 34 #[.slice a n cap, .int .i64 y] W fun e w' => e = .returned (.bool (hasB xs y)) ∧ Grow W w' := by
  subst hn
  exact has_ol h hi hl y
/-- A list of names of nodes, that was made behind b. -/
structure Nl (W : World) (b : Nat) (a : Option Addr) (n c : Nat) (xs : List Int) : Prop where
  o : OL W b (.slice a n c) xs
  l : xs.length = n
  i : ∀ i ∈ xs, In64 i
  m : n ≤ 1000000
theorem Nl.grow {c : Nat} (h : Nl W b a n c xs) (g : Grow W W') : Nl W' b a n c xs := ⟨h.o.grow g, h.l, h.i, h.m⟩
theorem Nl.chg {c : Nat} (h : Nl W b a n c xs) (g : Chg S W W') (hS : ∀ k, S k → k < b) : Nl W' b a n c xs :=
  ⟨h.o.chg g fun k hk hs => by have := (h.o.lt k hk).1; have := hS k hs; omega, h.l, h.i, h.m⟩
theorem Nl.has {c : Nat} (h : Nl W b a n c xs) (y : Int) :
    Calls Tryz.prog 34 #[.slice a n c, .int .i64 y] W fun e w' => e = .returned (.bool (hasB xs y)) ∧ Grow W w' := has_n h.o h.l h.i h.m y
theorem Nl.rd {c : Nat} (h : Nl W b a n c xs) : L1.Rd W a n xs := own_rd (own_cast h.o h.l)
theorem Nl.rl {c : Nat} (h : Nl W b a n c xs) (hS : ∀ k, S k → k < b) : Rl W a n c S xs := Rl.own h.o h.l h.i hS
/-- The k-th. -/
theorem Nl.at_ {c k : Nat} (h : Nl W b a n c xs) (hk : k < n) : ∃ g, a = some ⟨g, 0, none⟩ ∧ W.cell? ⟨g, k, none⟩ = some (.int .i64 (xs.getD k 0)) ∧ In64 (xs.getD k 0) ∧ xs.getD k 0 ∈ xs := by
  have hl := h.l
  have ho := h.o
  obtain ⟨g, cc, e, -⟩ := ho.pos (by omega)
  injection e with e1 e2 e3
  subst e1
  have ho2 : OL W b (.slice (some ⟨g, 0, none⟩) n c) xs := h.o
  clear e2 e3
  refine ⟨g, rfl, ?_, h.i _ (L10.getD_mem (by omega)), L10.getD_mem (by omega)⟩
  have hl2 := h.l
  subst hl2
  exact ho2.cell hk
/-- What Run answered, in box t: made behind base. -/
structure Rr (W : World) (t base : Nat) (a1 : Option Addr) (n1 c1 : Nat) (a2 : Option Addr) (n2 c2 : Nat) (a3 : Option Addr) (n3 c3 : Nat) (l1 l2 l3 : List Int) : Prop where
  blk : Blk W t 35 [.slice a1 n1 c1, .slice a2 n2 c2, .slice a3 n3 c3]
  bt : base ≤ t
  o1 : Nl W base a1 n1 c1 l1
  o2 : Nl W base a2 n2 c2 l2
  o3 : Nl W base a3 n3 c3 l3
/-- What Run answers: its lists, their lengths. -/
def RanL (w : World) (l1 l2 l3 : List Int) (n1 n2 n3 : Nat) (e : Ending) (w' : World) : Prop :=
  ∃ a1 c1 a2 c2 a3 c3, e = .returned (.agg #[.slice a1 n1 c1, .slice a2 n2 c2, .slice a3 n3 c3]) ∧ Nl w' w.heap.size a1 n1 c1 l1 ∧ Nl w' w.heap.size a2 n2 c2 l2 ∧ Nl w' w.heap.size a3 n3 c3 l3 ∧ Grow w w'
section
variable {t base n1 c1 n2 c2 n3 c3 : Nat} {a1 a2 a3 : Option Addr} {l1 l2 l3 : List Int}
theorem Rr.grow (h : Rr W t base a1 n1 c1 a2 n2 c2 a3 n3 c3 l1 l2 l3) (g : Grow W W') : Rr W' t base a1 n1 c1 a2 n2 c2 a3 n3 c3 l1 l2 l3 := ⟨h.blk.chg g id, h.bt, h.o1.grow g, h.o2.grow g, h.o3.grow g⟩
theorem Rr.chg (h : Rr W t base a1 n1 c1 a2 n2 c2 a3 n3 c3 l1 l2 l3) (g : Chg S W W') (hS : ∀ k, S k → k < base) : Rr W' t base a1 n1 c1 a2 n2 c2 a3 n3 c3 l1 l2 l3 :=
  ⟨h.blk.chg g fun hs => by have := hS _ hs; have := h.bt; omega, h.bt, h.o1.chg g hS, h.o2.chg g hS, h.o3.chg g hS⟩
theorem Rr.boxed (g : Grow w W) (h1 : Nl W w.heap.size a1 n1 c1 l1) (h2 : Nl W w.heap.size a2 n2 c2 l2) (h3 : Nl W w.heap.size a3 n3 c3 l3) :
    Rr (W.alloc (.cells [.slice a1 n1 c1, .slice a2 n2 c2, .slice a3 n3 c3].toArray 35)) W.heap.size w.heap.size a1 n1 c1 a2 n2 c2 a3 n3 c3 l1 l2 l3 :=
  ⟨Blk.new _ _ _, g.size, h1.grow (Grow.box _ _), h2.grow (Grow.box _ _), h3.grow (Grow.box _ _)⟩
theorem Rr.k0 (h : Rr W t base a1 n1 c1 a2 n2 c2 a3 n3 c3 l1 l2 l3) : W.cell? ⟨t, 0, none⟩ = some (.slice a1 n1 c1) := h.blk.cell 0
theorem Rr.k1 (h : Rr W t base a1 n1 c1 a2 n2 c2 a3 n3 c3 l1 l2 l3) : W.cell? ⟨t, 1, none⟩ = some (.slice a2 n2 c2) := h.blk.cell 1
theorem Rr.k2 (h : Rr W t base a1 n1 c1 a2 n2 c2 a3 n3 c3 l1 l2 l3) : W.cell? ⟨t, 2, none⟩ = some (.slice a3 n3 c3) := h.blk.cell 2
end
end
section
variable {w w' W W' : World} {p z n cc : Nat} {S : Nat → Prop} {cs : List Cl} {L : List Nd} {K p1 p2 : Int → Bool} {zs : List Int} {a : Option Addr} {fid : Nat} {lb : Array Value} {i : Int}
theorem Keeps.grow (h : Keeps w L K fid lb) (g : Grow w W) : Keeps W L K fid lb := fun W2 i c a n ca b m cb fn g2 hn => h W2 i c a n ca b m cb fn (g.trans g2) hn
theorem ces_len (cs : List Cl) (L : List Nd) (p q : Int → Bool) : (ces cs L p q).length ≤ 3 * L.length := by
  unfold ces
  rw [List.length_append, List.length_append]
  have h1 := clL_le L (e1 cs L p)
  have h2 := clL_le L (e2 cs L p q)
  have h3 := clL_le L (e3 cs L q)
  omega
theorem ces_in (hok : ∀ x ∈ L, x.Ok cs) : ∀ i ∈ ces cs L p1 p2, In64 i := by
  intro i hi
  unfold ces at hi
  rcases List.mem_append.1 hi with hi | hi
  · rcases List.mem_append.1 hi with hi | hi
    · exact cl_in64 hok _ i hi
    · exact cl_in64 hok _ i hi
  · exact cl_in64 hok _ i hi
theorem ran_l (hok : ∀ x ∈ L, x.Ok cs) (hl : L.length ≤ 40) {e : Ending} (h : Ran w cs L p1 p2 e w') : RanL w (clL L p2) (ces cs L p1 p2) (clL L (fi L p1)) (clL L p2).length (ces cs L p1 p2).length (clL L (fi L p1)).length e w' := by
  obtain ⟨a1, c1, a2, c2, a3, c3, h1, h2, h3, h4, h5⟩ := h
  have b1 := clL_le L p2
  have b2 := ces_len cs L p1 p2
  have b3 := clL_le L (fi L p1)
  exact ⟨a1, c1, a2, c2, a3, c3, h1, ⟨h2, rfl, cl_in64 hok _, by omega⟩, ⟨h3, rfl, ces_in hok, by omega⟩, ⟨h4, rfl, cl_in64 hok _, by omega⟩, h5⟩
/-- Run, its lists and their lengths as letters. -/
theorem run_l {l1 l2 l3 : List Int} {n1 n2 n3 : Nat} (eg : ∀ args w, (callFunc fid args).run Tryz.prog w = .ok (.enter fid args) w) (hk : Keeps w L K fid lb) (hg : GS w z S p cs L) (hl : L.length ≤ 40) (hz : L1.Rd w a n zs) (hn : n ≤ 1000000) (hi : ∀ i ∈ zs, In64 i) (hR : Rs cs L K zs p1 p2)
    (e1 : clL L p2 = l1) (e2 : ces cs L p1 p2 = l2) (e3 : clL L (fi L p1) = l3) (m1 : l1.length = n1) (m2 : l2.length = n2) (m3 : l3.length = n3) :
    Calls Tryz.prog 6 #[ptr p, .func (.func fid) #[] lb, .slice a n cc] w (RanL w l1 l2 l3 n1 n2 n3) := by
  subst e1 e2 e3 m1 m2 m3
  exact (run_keep eg hk hg (by omega) hz hn hi hR).mono fun e w' h => ran_l (fun x hx => hg.ok hx) hl h
theorem run_ln {l1 l2 l3 : List Int} {n1 n2 n3 : Nat} (hg : GS w z S p cs L) (hl : L.length ≤ 40) (hz : L1.Rd w a n zs) (hn : n ≤ 1000000) (hi : ∀ i ∈ zs, In64 i) (hR : Rs cs L no zs p1 p2)
    (e1 : clL L p2 = l1) (e2 : ces cs L p1 p2 = l2) (e3 : clL L (fi L p1) = l3) (m1 : l1.length = n1) (m2 : l2.length = n2) (m3 : l3.length = n3) :
    Calls Tryz.prog 6 #[ptr p, .nilFunc, .slice a n cc] w (RanL w l1 l2 l3 n1 n2 n3) := by
  subst e1 e2 e3 m1 m2 m3
  exact (run_nil hg (by omega) hz hn hi hR).mono fun e w' h => ran_l (fun x hx => hg.ok hx) hl h
/-- Reach, as a letter. -/
def RchL (w : World) (l : List Int) (n : Nat) (e : Ending) (w' : World) : Prop := ∃ a c, e = .returned (.slice a n c) ∧ Nl w' w.heap.size a n c l ∧ Grow w w'
theorem reach_l {l : List Int} {m : Nat} {r : Int → Bool} (hg : GS w z S p cs L) (hl : L.length ≤ 40) (hz : L1.Rd w a n zs) (hn : n ≤ 1000000) (hi : ∀ i ∈ zs, In64 i) (hr : IsRc cs L 1 zs r) (e : clL L r = l) (hm : l.length = m) :
    Calls Tryz.prog 52 #[ptr p, .slice a n cc] w (RchL w l m) := by
  subst e hm
  exact (reach_any (c := cc) hg (by omega) hz hn hi (show IsRc cs L 1 (srcC L 1 zs) r from hr)).mono fun e w' ⟨a', c', h1, h2, h3⟩ => ⟨a', c', h1, ⟨h2, rfl, cl_in64 (fun x hx => hg.ok hx) _, by have := clL_le L r; omega⟩, h3⟩
theorem close_l {ca : Option Addr} {cl cc2 qg : Nat} {T : Nat → Prop} {l : List Int} {m : Nat} {r : Int → Bool} (hg : Pg w z T qg ca cl cc2 cs L) (hl : L.length ≤ 40) (hz : L1.Rd w a n zs) (hn : n ≤ 1000000) (hr : IsRc cs L 1 zs r) (e : clL L r = l) (hm : l.length = m) :
    Calls Tryz.prog 32 #[ptr qg, .int .i64 1, .slice a n cc] w (RchL w l m) := by
  subst e hm
  exact (close_any (c := cc) hg hz hn (show IsRc cs L 1 (srcC L 1 zs) r from hr)).mono fun e w' ⟨a', c', h1, h2, h3⟩ => ⟨a', c', h1, ⟨h2, rfl, cl_in64 hg.o.2 _, by have := clL_le L r; omega⟩, h3⟩
end
section
variable {cs : List Cl} {L : List Nd} {K KA KB pa qa pb qb p q r : Int → Bool} {zs : List Int} {i : Int}
theorem clL_mono (h : ∀ x ∈ L, p x.id = true → q x.id = true) : (clL L p).length ≤ (clL L q).length := by
  unfold clL
  rw [List.length_map, List.length_map, ← List.countP_eq_length_filter, ← List.countP_eq_length_filter]
  exact List.countP_mono_left fun x hx hp => h x hx hp
/-- What is Strong lives. -/
theorem Rs.strong (h : Rs cs L K zs p q) (hr : IsRc cs L 1 zs r) (hi : r i = true) : p i = true := (h.a i).2 (Rc.toKc ((hr i).1 hi))
theorem soft_le (hA : Rs cs L KA zs pa qa) (hB : Rs cs L KB zs pb qb) (hs : Srt L) (hk : ∀ i, KA i = true → KB i = true) (hr : IsRc cs L 1 zs r) (hi : r i = true) (h34 : (aimX cs L i).2 = 3 ∨ (aimX cs L i).2 = 4) (hc : cB cs L pb qb i = true) : cB cs L pa qa i = true := by
  obtain ⟨-, h2, h3, -⟩ := hB.c_los hs hc
  have hpa : pa (aimX cs L i).1 = false := by
    cases hp : pa (aimX cs L i).1 with
    | false => rfl
    | true =>
      have := (hB.a _).2 (((hA.a _).1 hp).mono hk fun _ h => h)
      rw [h3] at this
      cases this
  unfold cB
  rw [Bool.or_eq_true]
  exact .inl (e1_iff.2 ⟨⟨hA.strong hr hi, h2, hpa⟩, h34⟩)
theorem soft_all (hC : Rs cs L (fun _ => true) zs p q) (hs : Srt L) (hr : IsRc cs L 1 zs r) (hi : r i = true) (h3 : (aimX cs L i).2 = 3) : cB cs L p q i = false := by
  cases hc : cB cs L p q i with
  | false => rfl
  | true =>
    obtain ⟨-, h2, h4, -⟩ := hC.c_los hs hc
    have := (hC.a _).2 (.kp ((hC.a _).1 (hC.strong hr hi)) h3 rfl h2)
    rw [h4] at this
    cases this
end
section
variable {w W W' : World} {b z p q : Nat} {S T : Nat → Prop} {ca na ra a1 : Option Addr} {cl cc nl nc rl rc n1 c1 : Nat} {cs : List Cl} {L : List Nd} {zs : List Int}
theorem St.small (h : St w W b z p q S T ca cl cc na nl nc ra rl rc cs L a1 n1 c1 zs) : Small L := fun i hn => by
  obtain ⟨k, e, h1, h2⟩ := h.named hn
  exact ⟨k, e, by have := h.n40; omega⟩
theorem St.l40 (h : St w W b z p q S T ca cl cc na nl nc ra rl rc cs L a1 n1 c1 zs) : L.length ≤ 40 := by rw [h.len]; exact h.n40
theorem St.clo (h : St w W b z p q S T ca cl cc na nl nc ra rl rc cs L a1 n1 c1 zs) : Clo L := fun x hx t ht => by
  by_cases h0 : t = 0
  · exact .inl h0
  · exact .inr (nd_ne.1 (h.ref hx ht h0))
theorem St.lok (h : St w W b z p q S T ca cl cc na nl nc ra rl rc cs L a1 n1 c1 zs) : Lok cs L := h.gs.lok
theorem St.sb (h : St w W b z p q S T ca cl cc na nl nc ra rl rc cs L a1 n1 c1 zs) : ∀ k, S k → k < W.heap.size := fun k hk => (h.gs.s hk).2
/-- Behind a call that changes the graph the old is as it was. -/
theorem St.old (h : St w W b z p q S T ca cl cc na nl nc ra rl rc cs L a1 n1 c1 zs) {W1 W2 : World} (g : Grow W W1) (c : Chg S W1 W2) : Grow w W2 := (h.gw.trans g).step c fun i hi hs => by
  have := (h.gs.s hs).1
  have := h.zw
  omega
theorem St.old2 (h : St w W b z p q S T ca cl cc na nl nc ra rl rc cs L a1 n1 c1 zs) {W1 W2 : World} (g : Grow w W1) (c : Chg S W1 W2) : Grow w W2 := g.step c fun i hi hs => by
  have := (h.gs.s hs).1
  have := h.zw
  omega
theorem St.rd_old (h : St w W b z p q S T ca cl cc na nl nc ra rl rc cs L a1 n1 c1 zs) {W2 : World} (g : Grow w W2) : L1.Rd W2 a1 n1 zs := (L10.row_rd (h.rt.chg g fun _ _ => id)).1
/-- Apply of what Run answered. -/
theorem apply_l {t base m1 d1 m2 d2 m3 d3 : Nat} {x1 x2 x3 : Option Addr} {l1 l2 l3 : List Int} (hg : GS W z S p cs L) (hl : L.length ≤ 40) (h : Rr W t base x1 m1 d1 x2 m2 d2 x3 m3 d3 l1 l2 l3) (hS : ∀ k, S k → k < base) (hm : m1 < 1000000) :
    Calls Tryz.prog 13 #[ptr p, .agg #[.slice x1 m1 d1, .slice x2 m2 d2, .slice x3 m3 d3]] W fun e w' => e = .returned (.int .i64 (apN cs L l1 l2 l3)) ∧ Chg S W w' ∧ GS w' z S p cs (apL cs L l1 l2 l3) :=
  apply_any hg (by omega) (h.o1.rl hS) (h.o2.rl hS) (h.o3.rl hS) hm h.o2.m h.o3.m
end
end Go.Proofs.YtjfpjnhlnoiekaaGreat.L13
