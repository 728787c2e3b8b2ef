/- Worlds of objects that are built one by one, and whose references are set: pure facts. Conditions: none; nothing here speaks of the program. -/
import Derived.Test.YtogfjclmohpjkaaGreatDoorL15J
namespace Go.Proofs.YtogfjclmohpjkaaGreatDoor.L15
open Go.Proofs.YtogfjclmohpjkaaGreatDoor.L5 (Cl rtB clAt shX shR shD c0)
open Go.Proofs.YtogfjclmohpjkaaGreatDoor.L7 (inn cd tset)
open Go.Proofs.YtogfjclmohpjkaaGreatDoor.L3 (no)
set_option linter.unusedVariables false

/-- An object that is asked for: its class, age, place, number. -/
structure Tg where
  c : Int
  a : Int
  w : Int
  d : Int
def Tg.B (t : Tg) : Prop := (0 ≤ t.c ∧ t.c ≤ 255) ∧ (0 ≤ t.a ∧ t.a ≤ 255) ∧ (0 ≤ t.w ∧ t.w ≤ 255) ∧ (0 ≤ t.d ∧ t.d ≤ 255)
def Tg.k (t : Tg) (m : Nat) : Nat := t.c.toNat % m
def Tg.l (t : Tg) (c : Cl) : Int := if c.k = 2 then t.d % 5 else 0
def Tg.o (t : Tg) (k : Nat) (c : Cl) : Ob := ⟨(k : Int) + 1, t.a % 8, 0, false, c.f, false, t.l c, List.replicate (shR (some c) (t.l c)).toNat 0, (List.range (shD (some c) (t.l c)).toNat).map fun j : Nat => t.d + j⟩
/-- Which space: 0 is Old, 1 Eden, 2 From. -/
def Tg.i (t : Tg) : Nat := if t.w % 4 = 2 then 2 else if t.w % 4 = 3 then 0 else 1
def Yg.tp (y : Yg) (i : Nat) : Int := if i = 0 then y.OT else if i = 1 then y.ET else y.FT
def Yg.en (y : Yg) (i : Nat) : Int := if i = 0 then y.OE else if i = 1 then y.EE else y.FE
def Yg.st (y : Yg) (i : Nat) (v : Int) : Yg := ⟨y.OF, if i = 0 then v else y.OT, y.OE, y.EF, if i = 1 then v else y.ET, y.EE, y.FF, if i = 2 then v else y.FT, y.FE, y.TF, y.TT, y.TE, y.th⟩
/-- One object more; it is told among zs. -/
def Fx.add (f : Fx) (i : Nat) (o : Ob) : Fx := ⟨f.n, f.cs, f.y.st i (f.y.tp i + o.sz), up f.ob (f.y.tp i) o, if i = 0 then f.OS ++ [f.y.tp i] else f.OS, if i = 1 then f.YE ++ [f.y.tp i] else f.YE, if i = 2 then f.YF ++ [f.y.tp i] else f.YF, f.zs ++ [f.y.tp i]⟩
def Fx.lay (f : Fx) (t : Tg) : Fx :=
  if f.y.en t.i - f.y.tp t.i < ((t.o (t.k f.cs.length) (f.cs.getD (t.k f.cs.length) c0)).sz : Int) then f else f.add t.i (t.o (t.k f.cs.length) (f.cs.getD (t.k f.cs.length) c0))
/-- A reference that is set. -/
def Fx.setr (f : Fx) (x : Int) (k : Nat) (r : Int) : Fx := { f with ob := up f.ob x { f.ob x with rs := (f.ob x).rs.set k r } }
/-- The one of a number, 0 at none. -/
def nthZ (zs : List Int) (k : Nat) : Int := if k = 0 then 0 else zs.getD (k - 1) 0
def Fx.lnk (f : Fx) (a b c : Nat) : Fx :=
  if (f.ob (f.zs.getD (a % f.zs.length) 0)).rs.length = 0 then f else f.setr (f.zs.getD (a % f.zs.length) 0) (b % (f.ob (f.zs.getD (a % f.zs.length) 0)).rs.length) (nthZ f.zs (c % (f.zs.length + 1)))
def Fx.new (cs : List Cl) (h th : Int) : Fx := ⟨1000, cs, ⟨1, 1, 401, 401, 401, 601, 601, 601, 601 + h, 601 + h, 601 + h, 601 + h + h, th⟩, fun _ => ob00, [], [], [], []⟩
/-- What stands while it is built. -/
structure Bd (f : Fx) (xs : List Int) (H : Int) : Prop where
  wf : Wf f xs
  zi : ∀ x, x ∈ f.zs ↔ x ∈ f.all
  n : f.n = 1000
  h : 0 ≤ H ∧ H ≤ 100
  y : f.y.OF = 1 ∧ f.y.OE = 401 ∧ f.y.EF = 401 ∧ f.y.EE = 601 ∧ f.y.FF = 601 ∧ f.y.FE = 601 + H ∧ f.y.TF = 601 + H ∧ f.y.TT = 601 + H ∧ f.y.TE = 601 + H + H
theorem add_or1 {a b c d : Prop} : (a ∨ d) ∨ (b ∨ c) ↔ (a ∨ (b ∨ c)) ∨ d := by
  constructor
  · rintro ((h | h) | h) <;> simp [h]
  · rintro ((h | h) | h) <;> simp [h]
theorem add_or2 {a b c d : Prop} : a ∨ ((b ∨ d) ∨ c) ↔ (a ∨ (b ∨ c)) ∨ d := by
  constructor
  · rintro (h | ((h | h) | h)) <;> simp [h]
  · rintro ((h | (h | h)) | h) <;> simp [h]
theorem add_or3 {a b c d : Prop} : a ∨ (b ∨ (c ∨ d)) ↔ (a ∨ (b ∨ c)) ∨ d := by
  constructor
  · rintro (h | (h | (h | h))) <;> simp [h]
  · rintro ((h | (h | h)) | h) <;> simp [h]
section
variable {f : Fx} {xs ys : List Int} {H h th x r : Int} {o : Ob} {i k m : Nat} {cs : List Cl} {c : Cl} {t : Tg}
theorem Bd.start (hn : xs.length = 1000) (hrt : cs.all Cl.rt = true) (hh : 0 ≤ h ∧ h ≤ 100) (ht : 0 ≤ th ∧ th ≤ 7) : Bd (Fx.new cs h th) xs h := by
  refine ⟨⟨hn, hrt, ⟨by simp [Fx.new], by simp [Fx.new], ?_, ?_, ?_, ?_, ?_, ?_, ?_, ?_, ?_, ?_⟩, rfl, rfl, rfl, fun x hx => by simp [Fx.new, Fx.all, Fx.YS] at hx⟩, fun x => by simp [Fx.new, Fx.all, Fx.YS], rfl, hh, ⟨rfl, rfl, rfl, rfl, rfl, rfl, rfl, rfl, rfl⟩⟩
  all_goals (dsimp only [Fx.new, dj]; omega)
theorem Bd.i3 (h : Bd f xs H) (hi : i < 3) : 1 ≤ f.y.tp i ∧ f.y.tp i ≤ f.y.en i ∧ f.y.en i ≤ 801 ∧ f.y.en i ≤ f.n := by
  have hn := h.n
  have hh := h.h
  have hy := h.y
  have o := h.wf.ok.o
  have e := h.wf.ok.e
  have g := h.wf.ok.f
  obtain rfl | rfl | rfl : i = 0 ∨ i = 1 ∨ i = 2 := by omega
  · simp only [Yg.tp, Yg.en, if_pos]; omega
  · simp only [Yg.tp, Yg.en, if_pos, if_neg (show ¬ (1 : Nat) = 0 by decide)]; omega
  · simp only [Yg.tp, Yg.en, if_neg (show ¬ (2 : Nat) = 0 by decide), if_neg (show ¬ (2 : Nat) = 1 by decide)]; omega
/-- Another object's place lies apart. -/
theorem Bd.far (h : Bd f xs H) (hi : i < 3) (hr : f.y.tp i + (o.sz : Int) ≤ f.y.en i) (hx : x ∈ f.all) : x ≠ f.y.tp i ∧ (x + (f.ob x).sz ≤ f.y.tp i ∨ f.y.tp i + o.sz ≤ x) := by
  have p := sz_pos (f.ob x)
  have q := sz_pos o
  have hn := h.n
  have hh := h.h
  have hy := h.y
  have ko := h.wf.ok.o
  have ke := h.wf.ok.e
  have kf := h.wf.ok.f
  have key : x + (f.ob x).sz ≤ f.y.tp i ∨ f.y.tp i + o.sz ≤ x := by
    rcases List.mem_append.1 hx with hx | hx
    · have b := h.wf.so.bd hx
      obtain rfl | rfl | rfl : i = 0 ∨ i = 1 ∨ i = 2 := by omega
      · simp only [Yg.tp, Yg.en, if_pos] at hr ⊢; omega
      · simp only [Yg.tp, Yg.en, if_pos, if_neg (show ¬ (1 : Nat) = 0 by decide)] at hr ⊢; omega
      · simp only [Yg.tp, Yg.en, if_neg (show ¬ (2 : Nat) = 0 by decide), if_neg (show ¬ (2 : Nat) = 1 by decide)] at hr ⊢; omega
    · rcases List.mem_append.1 hx with hx | hx
      · have b := h.wf.se.bd hx
        obtain rfl | rfl | rfl : i = 0 ∨ i = 1 ∨ i = 2 := by omega
        · simp only [Yg.tp, Yg.en, if_pos] at hr ⊢; omega
        · simp only [Yg.tp, Yg.en, if_pos, if_neg (show ¬ (1 : Nat) = 0 by decide)] at hr ⊢; omega
        · simp only [Yg.tp, Yg.en, if_neg (show ¬ (2 : Nat) = 0 by decide), if_neg (show ¬ (2 : Nat) = 1 by decide)] at hr ⊢; omega
      · have b := h.wf.sf.bd hx
        obtain rfl | rfl | rfl : i = 0 ∨ i = 1 ∨ i = 2 := by omega
        · simp only [Yg.tp, Yg.en, if_pos] at hr ⊢; omega
        · simp only [Yg.tp, Yg.en, if_pos, if_neg (show ¬ (1 : Nat) = 0 by decide)] at hr ⊢; omega
        · simp only [Yg.tp, Yg.en, if_neg (show ¬ (2 : Nat) = 0 by decide), if_neg (show ¬ (2 : Nat) = 1 by decide)] at hr ⊢; omega
  exact ⟨by omega, key⟩
theorem Bd.add (h : Bd f xs H) (hi : i < 3) (hr : f.y.tp i + (o.sz : Int) ≤ f.y.en i) (ho : ObAt ys f.cs (f.y.tp i) o) (hl : ys.length = xs.length)
    (he : ∀ j, j < (f.y.tp i).toNat ∨ (f.y.tp i).toNat + o.sz ≤ j → ys[j]? = xs[j]?) (h0 : ∀ r ∈ o.rs, r = 0) : Bd (f.add i o) ys H := by
  have hb := h.i3 hi
  have hfar : ∀ x ∈ f.all, up f.ob (f.y.tp i) o x = f.ob x ∧ ObAt ys f.cs x (f.ob x) := fun x hx => by
    obtain ⟨h1, h2⟩ := h.far hi hr hx
    exact ⟨up_ne h1, keepX (h.wf.at_ hx) (by omega) he h2⟩
  have one : Seg ys f.cs (up f.ob (f.y.tp i) o) (f.y.tp i) [f.y.tp i] (f.y.tp i + o.sz) := by
    have := Seg.one (xs := ys) (cs := f.cs) (ob := up f.ob (f.y.tp i) o) (a := f.y.tp i) (by rw [up_at]; exact ho)
    rwa [up_at] at this
  have so := h.wf.so.keep fun x hx => hfar x (List.mem_append_left _ hx)
  have se := h.wf.se.keep fun x hx => hfar x (List.mem_append_right _ (List.mem_append_left _ hx))
  have sf := h.wf.sf.keep fun x hx => hfar x (List.mem_append_right _ (List.mem_append_right _ hx))
  have hm : ∀ x, x ∈ (f.add i o).all ↔ x ∈ f.all ∨ x = f.y.tp i := fun x => by
    show x ∈ (if i = 0 then f.OS ++ [f.y.tp i] else f.OS) ++ ((if i = 1 then f.YE ++ [f.y.tp i] else f.YE) ++ (if i = 2 then f.YF ++ [f.y.tp i] else f.YF)) ↔ x ∈ f.OS ++ (f.YE ++ f.YF) ∨ x = f.y.tp i
    generalize f.y.tp i = T
    simp only [List.mem_append]
    obtain rfl | rfl | rfl : i = 0 ∨ i = 1 ∨ i = 2 := by omega
    · rw [if_pos rfl, if_neg (by decide), if_neg (by decide), List.mem_append, List.mem_singleton]; exact add_or1
    · rw [if_pos rfl, if_neg (by decide), if_neg (by decide), List.mem_append, List.mem_singleton]; exact add_or2
    · rw [if_pos rfl, if_neg (by decide), if_neg (by decide), List.mem_append, List.mem_singleton]; exact add_or3
  have hcl : ∀ x ∈ (f.add i o).all, ∀ r ∈ ((f.add i o).ob x).rs, r = 0 ∨ r ∈ (f.add i o).all := fun x hx r hrr => by
    rcases (hm x).1 hx with hx | rfl
    · rw [show (f.add i o).ob x = f.ob x from (hfar x hx).1] at hrr
      exact (h.wf.cl x hx r hrr).imp id fun k => (hm r).2 (.inl k)
    · rw [show (f.add i o).ob (f.y.tp i) = o from up_at _ _ _] at hrr
      exact .inl (h0 r hrr)
  have hzi : ∀ x, x ∈ (f.add i o).zs ↔ x ∈ (f.add i o).all := fun x => by
    rw [hm, ← h.zi]; simp [Fx.add]
  have hn := h.n
  have hh := h.h
  have hy := h.y
  have ko := h.wf.ok.o
  have ke := h.wf.ok.e
  have kf := h.wf.ok.f
  have kt := h.wf.ok.th
  refine ⟨⟨hl.trans h.wf.n, h.wf.rt, ?_, ?_, ?_, ?_, hcl⟩, hzi, h.n, h.h, h.y⟩
  · obtain rfl | rfl | rfl : i = 0 ∨ i = 1 ∨ i = 2 := by omega
    · 
      simp only [Yg.tp, Yg.en, if_pos] at hr
      exact ⟨by simp only [Fx.add, Yg.st, Yg.tp, if_pos]; omega, ke, kf, h.wf.ok.t, h.wf.ok.oe, h.wf.ok.of, h.wf.ok.ot, h.wf.ok.ef, h.wf.ok.et, h.wf.ok.ft, h.wf.ok.s, kt⟩
    · 
      simp only [Yg.tp, Yg.en, if_pos, if_neg (show ¬ (1 : Nat) = 0 by decide)] at hr
      exact ⟨ko, by simp only [Fx.add, Yg.st, Yg.tp, if_pos, if_neg (show ¬ (1 : Nat) = 0 by decide)]; omega, kf, h.wf.ok.t, h.wf.ok.oe, h.wf.ok.of, h.wf.ok.ot, h.wf.ok.ef, h.wf.ok.et, h.wf.ok.ft, h.wf.ok.s, kt⟩
    · 
      simp only [Yg.tp, Yg.en, if_neg (show ¬ (2 : Nat) = 0 by decide), if_neg (show ¬ (2 : Nat) = 1 by decide)] at hr
      exact ⟨ko, ke, by simp only [Fx.add, Yg.st, Yg.tp, if_pos, if_neg (show ¬ (2 : Nat) = 0 by decide), if_neg (show ¬ (2 : Nat) = 1 by decide)]; omega, h.wf.ok.t, h.wf.ok.oe, h.wf.ok.of, h.wf.ok.ot, h.wf.ok.ef, h.wf.ok.et, h.wf.ok.ft, h.wf.ok.s, kt⟩
  · obtain rfl | rfl | rfl : i = 0 ∨ i = 1 ∨ i = 2 := by omega
    · exact so.app one
    · exact so
    · exact so
  · obtain rfl | rfl | rfl : i = 0 ∨ i = 1 ∨ i = 2 := by omega
    · exact se
    · exact se.app one
    · exact se
  · obtain rfl | rfl | rfl : i = 0 ∨ i = 1 ∨ i = 2 := by omega
    · exact sf
    · exact sf
    · exact sf.app one
/-- Other objects of the same sizes in their places. -/
theorem Wf.upd {ob' : Int → Ob} (h : Wf f xs) (hl : ys.length = xs.length) (he : ∀ x ∈ f.all, (ob' x).sz = (f.ob x).sz ∧ ObAt ys f.cs x (ob' x)) (hc : ∀ x ∈ f.all, ∀ r ∈ (ob' x).rs, r = 0 ∨ r ∈ f.all) : Wf { f with ob := ob' } ys :=
  ⟨hl.trans h.n, h.rt, h.ok, h.so.put fun x hx => he x (List.mem_append_left _ hx), h.se.put fun x hx => he x (List.mem_append_right _ (List.mem_append_left _ hx)), h.sf.put fun x hx => he x (List.mem_append_right _ (List.mem_append_right _ hx)), hc⟩
theorem Wf.apart {y : Int} (h : Wf f xs) (hx : x ∈ f.all) (hy : y ∈ f.all) (hne : x ≠ y) : x + (f.ob x).sz ≤ y ∨ y + (f.ob y).sz ≤ x := by
  have key : ∀ z, z ∈ f.all → z ∈ Mst.here f ⟨xs, zeros f.n, f.y.OT, f.y.TF, f.ob, [], [], id, [], fun _ => 0⟩ := fun z hz => by
    rcases List.mem_append.1 hz with hz | hz
    · exact List.mem_append_right _ (List.mem_append_left _ (List.mem_append_left _ hz))
    · exact List.mem_append_left _ hz
  exact (Inv.start h).apart h (key x hx) (key y hy) hne
/-- One object is changed in its place. -/
theorem Wf.one {o : Ob} (h : Wf f xs) (hx : x ∈ f.all) (hl : ys.length = xs.length) (hs : o.sz = (f.ob x).sz) (ho : ObAt ys f.cs x o) (he : ∀ j, j < x.toNat ∨ x.toNat + o.sz ≤ j → ys[j]? = xs[j]?) (hc : ∀ r ∈ o.rs, r = 0 ∨ r ∈ f.all) :
    Wf { f with ob := up f.ob x o } ys := by
  have h1 := (h.at_ hx).a1
  refine h.upd hl (fun z hz => ?_) fun z hz r hr => ?_
  · by_cases e : z = x
    · subst e; rw [up_at]; exact ⟨hs, ho⟩
    · rw [up_ne e]
      refine ⟨rfl, keepX (h.at_ hz) (by omega) he ?_⟩
      have := h.apart hz hx e
      rw [hs]; exact this
  · by_cases e : z = x
    · subst e; rw [up_at] at hr; exact hc r hr
    · rw [up_ne e] at hr; exact h.cl z hz r hr
theorem Bd.setr (h : Bd f xs H) (hx : x ∈ f.all) (hk : k < (f.ob x).rs.length) (hr : r = 0 ∨ r ∈ f.all) : Bd (f.setr x k r) (xs.set (x.toNat + (2 + k)) r) H := by
  have ho := h.wf.at_ hx
  refine ⟨h.wf.one hx (by simp) (by simp [Ob.sz]) (ho.setR hk r) (fun j hj => ?_) fun q hq => ?_, h.zi, h.n, h.h, h.y⟩
  · rw [List.getElem?_set_ne]
    simp [Ob.sz] at hj
    omega
  · rcases List.mem_or_eq_of_mem_set hq with hq | hq
    · exact h.wf.cl x hx q hq
    · exact hq ▸ hr
theorem nthZ_in {zs : List Int} {k : Nat} (hk : k ≤ zs.length) : nthZ zs k = 0 ∨ nthZ zs k ∈ zs := by
  unfold nthZ
  split
  · exact .inl rfl
  · exact .inr (getD_mem (by omega))
theorem Tg.oz (t : Tg) (k : Nat) (c : Cl) : ∀ r ∈ (t.o k c).rs, r = 0 := fun r hr => List.eq_of_mem_replicate hr
theorem Tg.i_lt (t : Tg) : t.i < 3 := by unfold Tg.i; split; · decide
                                         · split <;> decide
theorem Tg.l_ok (t : Tg) (c : Cl) (hd : 0 ≤ t.d) : shX (some c) (t.l c) = 0 ∧ 0 ≤ t.l c ∧ t.l c ≤ 4 := by
  unfold Tg.l
  by_cases h : c.k = 2
  · rw [if_pos h]
    have h1 := Int.emod_nonneg t.d (show (5 : Int) ≠ 0 by decide)
    have h2 := Int.emod_lt_of_pos t.d (show (0 : Int) < 5 by decide)
    refine ⟨?_, h1, by omega⟩
    simp only [shX, h]
    rw [if_neg (by simp; omega), if_neg (by omega)]
  · rw [if_neg h]
    exact ⟨by simp [shX], by omega, by omega⟩
theorem Tg.ok (ht : t.B) (hc : cs[k]? = some c) (hrt : cs.all Cl.rt = true) (hl : cs.length < 64) : (t.o k c).Ok cs ∧ ((t.o k c).sz : Int) = 2 + shR (some c) (t.l c) + shD (some c) (t.l c) := by
  have hk := (List.getElem?_eq_some_iff.1 hc).1
  have hcl := L5.clAt_at hc
  have hb := L5.sh_bd (o := some c) (fun c' e => by injection e with e; subst e; exact L5.all_rt hrt hc) (t.l c)
  have h1 := Int.emod_nonneg t.a (show (8 : Int) ≠ 0 by decide)
  have h2 := Int.emod_lt_of_pos t.a (show (0 : Int) < 8 by decide)
  refine ⟨⟨L4.ri_mk (by show (0 : Int) ≤ (k : Int) + 1; omega) (by show (k : Int) + 1 ≤ 63; omega) h1 (by show t.a % 8 ≤ 7; omega) (by show (0 : Int) ≤ 0; decide) (by show (0 : Int) ≤ 4095; decide) (by simp [Tg.o]), ⟨c, hcl⟩, ?_, ?_, ?_⟩, ?_⟩
  · show shX (clAt cs ((k : Int) + 1)) (t.l c) = 0
    rw [hcl]; exact (t.l_ok c ht.2.2.2.1).1
  · show shR (clAt cs ((k : Int) + 1)) (t.l c) = _
    rw [hcl]; simp [Tg.o]; omega
  · show shD (clAt cs ((k : Int) + 1)) (t.l c) = _
    rw [hcl]; simp [Tg.o]; omega
  · simp only [Ob.sz, Tg.o, List.length_replicate, List.length_map, List.length_range]; omega
end
/-- The cards of some of these addresses. -/
def tS (p : Int → Bool) (f t : Nat) (L : List Int) (S : Nat → Bool) : Nat → Bool := L.foldl (fun S x => if p x then tset S f t x else S) S
section
variable {p : Int → Bool} {f t k : Nat} {L : List Int} {S : Nat → Bool} {x : Int}
theorem tS_snoc (L : List Int) (x : Int) : tS p f t (L ++ [x]) S = if p x then tset (tS p f t L S) f t x else tS p f t L S := by simp [tS]
theorem tset_iff (a : Int) : tset S f t a k = true ↔ S k = true ∨ (inn f t a = true ∧ cd f a = k) := by
  unfold tset
  by_cases h : inn f t a = true
  · rw [if_pos h]
    unfold L3.upd
    by_cases e : k = cd f a
    · simp [e, h]
    · simp [e, h, Ne.symm e]
  · rw [if_neg h]; simp [h]
theorem tS_iff (L : List Int) : ∀ S : Nat → Bool, tS p f t L S k = true ↔ S k = true ∨ ∃ x ∈ L, p x = true ∧ inn f t x = true ∧ cd f x = k := by
  induction L with
  | nil => intro S; simp [tS]
  | cons a L ih =>
    intro S
    show tS p f t L (if p a then tset S f t a else S) k = true ↔ _
    rw [ih]
    by_cases ha : p a = true
    · rw [if_pos ha, tset_iff]
      simp [ha]
      constructor
      · rintro ((h | h) | h)
        · exact .inl h
        · exact .inr (.inl h)
        · exact .inr (.inr h)
      · rintro (h | h | h)
        · exact .inl (.inl h)
        · exact .inl (.inr h)
        · exact .inr h
    · rw [if_neg ha]
      simp [ha]
theorem recS_tS {y : Yg} {ob : Int → Ob} : recS y ob f t L = tS (fun x => y.ld (ob x)) f t L no := rfl
end
end Go.Proofs.YtogfjclmohpjkaaGreatDoor.L15
