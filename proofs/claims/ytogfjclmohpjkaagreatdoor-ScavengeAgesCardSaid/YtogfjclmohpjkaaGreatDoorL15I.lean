/- What stands in the words while young objects are moved: an invariant, and what each step keeps of it. Conditions: none; nothing here speaks of the program. -/
import Derived.Test.YtogfjclmohpjkaaGreatDoorL15O
import Derived.Test.YtogfjclmohpjkaaGreatDoorL2A
namespace Go.Proofs.YtogfjclmohpjkaaGreatDoor.L15
open Go.Proofs.YtogfjclmohpjkaaGreatDoor.L4 (hdV riB wd)
open Go.Proofs.YtogfjclmohpjkaaGreatDoor.L5 (Cl rtB clAt shX shR shD)
set_option linter.unusedVariables false

/-- Spaces of a scavenging, and its threshold. -/
structure Yg where
  OF : Int
  OT : Int
  OE : Int
  EF : Int
  ET : Int
  EE : Int
  FF : Int
  FT : Int
  FE : Int
  TF : Int
  TT : Int
  TE : Int
  th : Int
def Yg.isY (y : Yg) (r : Int) : Bool := L2.hasB y.EF y.ET y.EE r || L2.hasB y.FF y.FT y.FE r
/-- Two stretches share no address. -/
def dj (F E F' E' : Int) : Prop := E ≤ F' ∨ E' ≤ F ∨ E ≤ F ∨ E' ≤ F'
theorem dj.ap {F E F' E' x y p q : Int} (h : dj F E F' E') (h1 : F ≤ x ∧ x + p ≤ E) (h2 : F' ≤ y ∧ y + q ≤ E') (hp : 1 ≤ p) (hq : 1 ≤ q) : x + p ≤ y ∨ y + q ≤ x := by
  unfold dj at h
  omega
theorem dj.sym {F E F' E' : Int} (h : dj F E F' E') : dj F' E' F E := by
  unfold dj at *
  omega
structure Yg.Ok (y : Yg) (n : Nat) : Prop where
  o : 1 ≤ y.OF ∧ y.OF ≤ y.OT ∧ y.OT ≤ y.OE ∧ y.OE ≤ 4096 ∧ y.OE ≤ n
  e : 1 ≤ y.EF ∧ y.EF ≤ y.ET ∧ y.ET ≤ y.EE ∧ y.EE ≤ 4096 ∧ y.EE ≤ n
  f : 1 ≤ y.FF ∧ y.FF ≤ y.FT ∧ y.FT ≤ y.FE ∧ y.FE ≤ 4096 ∧ y.FE ≤ n
  t : 1 ≤ y.TF ∧ y.TT = y.TF ∧ y.TF ≤ y.TE ∧ y.TE ≤ 4096 ∧ y.TE ≤ n
  oe : dj y.OF y.OE y.EF y.EE
  of : dj y.OF y.OE y.FF y.FE
  ot : dj y.OF y.OE y.TF y.TE
  ef : dj y.EF y.EE y.FF y.FE
  et : dj y.EF y.EE y.TF y.TE
  ft : dj y.FF y.FE y.TF y.TE
  s : y.TE - y.TF = y.FE - y.FF
  th : 0 ≤ y.th ∧ y.th ≤ 7
/-- What is given: how many words, the classes, the spaces, the objects, which are old, which lie in Eden, in From, the roots. -/
structure Fx where
  n : Nat
  cs : List Cl
  y : Yg
  ob : Int → Ob
  OS : List Int
  YE : List Int
  YF : List Int
  zs : List Int
abbrev Fx.YS (f : Fx) : List Int := f.YE ++ f.YF
abbrev Fx.all (f : Fx) : List Int := f.OS ++ f.YS
/-- A world that can be. -/
structure Wf (f : Fx) (xs : List Int) : Prop where
  n : xs.length = f.n
  rt : f.cs.all Cl.rt = true
  ok : f.y.Ok f.n
  so : Seg xs f.cs f.ob f.y.OF f.OS f.y.OT
  se : Seg xs f.cs f.ob f.y.EF f.YE f.y.ET
  sf : Seg xs f.cs f.ob f.y.FF f.YF f.y.FT
  cl : ∀ x ∈ f.all, ∀ r ∈ (f.ob x).rs, r = 0 ∨ r ∈ f.all
section
variable {f : Fx} {xs : List Int} {x r : Int}
theorem has_in {F T E a : Int} (h : 0 ≤ F ∧ T ≤ E ∧ E ≤ 4096) (h1 : F ≤ a) (h2 : a < T) : L2.hasB F T E a = true := by
  simp [L2.hasB, L2.riB]; omega
theorem has_not {F T E a : Int} (h : a < F ∨ T ≤ a) : L2.hasB F T E a = false := by
  simp [L2.hasB, L2.riB]; omega
theorem has_iff {F T E a : Int} (h : 0 ≤ F ∧ F ≤ T ∧ T ≤ E ∧ E ≤ 4096) : L2.hasB F T E a = true ↔ F ≤ a ∧ a < T := by
  simp [L2.hasB, L2.riB]; omega
theorem Wf.yin (h : Wf f xs) (hx : x ∈ f.YS) : f.y.isY x = true := by
  have e := h.ok.e
  have g := h.ok.f
  have := sz_pos (f.ob x)
  unfold Yg.isY
  rcases List.mem_append.1 hx with hx | hx
  · have := h.se.bd hx
    rw [has_in ⟨by omega, by omega, by omega⟩ (by omega) (by omega)]; rfl
  · have := h.sf.bd hx
    rw [has_in (F := f.y.FF) ⟨by omega, by omega, by omega⟩ (by omega) (by omega)]; simp
theorem Yg.Ok.nin {y : Yg} {n : Nat} (h : y.Ok n) (hx : x = 0 ∨ (y.OF ≤ x ∧ x < y.OE) ∨ (y.TF ≤ x ∧ x < y.TE)) : y.isY x = false := by
  obtain ⟨o, e, g, t, oe, of, ot, ef, et, ft, _, _⟩ := h
  have key : ∀ {F T E : Int}, 1 ≤ F → T ≤ E → dj y.OF y.OE F E → dj F E y.TF y.TE → L2.hasB F T E x = false := by
    intro F T E h1 h2 h3 h4
    refine has_not ?_
    refine Classical.byContradiction fun hc => ?_
    rcases hx with hx | hx | hx
    · omega
    · have := h3.ap (x := x) (y := x) (p := 1) (q := 1) (by omega) (by omega) (by omega) (by omega)
      omega
    · have := h4.ap (x := x) (y := x) (p := 1) (q := 1) (by omega) (by omega) (by omega) (by omega)
      omega
  unfold Yg.isY
  rw [key e.1 e.2.2.1 oe et, key g.1 g.2.2.1 of ft]
  rfl
theorem Wf.oin (h : Wf f xs) (hx : x ∈ f.OS) : f.y.isY x = false := by
  have := h.so.bd hx
  have := sz_pos (f.ob x)
  have := h.ok.o
  exact h.ok.nin (.inr (.inl (by omega)))
theorem Wf.at_ (h : Wf f xs) (hx : x ∈ f.all) : ObAt xs f.cs x (f.ob x) := by
  rcases List.mem_append.1 hx with hx | hx
  · exact h.so.at_ hx
  · rcases List.mem_append.1 hx with hx | hx
    · exact h.se.at_ hx
    · exact h.sf.at_ hx
theorem Wf.ynod (h : Wf f xs) : f.YS.Nodup := by
  rw [List.nodup_append]
  refine ⟨h.se.nodup, h.sf.nodup, fun a ha b hb e => ?_⟩
  have h1 := h.se.bd ha
  have h2 := h.sf.bd hb
  have p1 := sz_pos (f.ob a)
  have p2 := sz_pos (f.ob b)
  have e1 := h.ok.e
  have e2 := h.ok.f
  have := h.ok.ef.ap (x := a) (y := b) (p := (f.ob a).sz) (q := (f.ob b).sz) (by omega) (by omega) (by omega) (by omega)
  omega
/-- Where two objects lie. -/
theorem Wf.used (h : Wf f xs) : (szs f.ob f.YS : Int) = (f.y.ET - f.y.EF) + (f.y.FT - f.y.FF) := by
  have h1 := h.se.sum
  have h2 := h.sf.sum
  rw [szs_app]
  omega
end

/-- What is reached from the roots and from old objects. -/
inductive Rc (f : Fx) : Int → Prop
  | rt {x : Int} (h : x ∈ f.zs) (h0 : x ≠ 0) : Rc f x
  | ol {x : Int} (h : x ∈ f.OS) : Rc f x
  | go {x r : Int} (h : Rc f x) (hr : r ∈ (f.ob x).rs) (h0 : r ≠ 0) : Rc f r
/-- What stands while they are moved: words, new addresses, where both spaces end, objects, those that came to Old, to To, where each was, which were moved, how many references of each are led on. -/
structure Mst where
  xs : List Int
  mv : List Int
  ot : Int
  tt : Int
  ob : Int → Ob
  PO : List Int
  LT : List Int
  src : Int → Int
  M : List Int
  dn : Int → Nat
def up {α : Type} (g : Int → α) (x : Int) (v : α) : Int → α := fun z => if z = x then v else g z
theorem up_at {α : Type} (g : Int → α) (x : Int) (v : α) : up g x v x = v := by simp [up]
theorem up_ne {α : Type} {g : Int → α} {x z : Int} {v : α} (h : z ≠ x) : up g x v z = g z := by simp [up, h]
abbrev mvA (mv : List Int) (a : Int) : Int := mv.getD a.toNat 0
/-- A reference is led on. -/
def Led (y : Yg) (mv : List Int) (r r' : Int) : Prop := (y.isY r = false ∧ r' = r) ∨ (y.isY r = true ∧ mvA mv r = r' ∧ r' ≠ 0)
/-- An object has its references led on, so many. -/
structure Img (y : Yg) (mv : List Int) (k : Nat) (o o' : Ob) : Prop where
  C : o'.C = o.C
  l : o'.l = o.l
  f : o'.f = o.f
  d : o'.d = o.d
  ds : o'.ds = o.ds
  n : o'.rs.length = o.rs.length
  led : ∀ j, j < k → j < o.rs.length → Led y mv (o.rs.getD j 0) (o'.rs.getD j 0)
  raw : ∀ j, k ≤ j → o'.rs.getD j 0 = o.rs.getD j 0
theorem Img.sz {y : Yg} {mv : List Int} {k : Nat} {o o' : Ob} (h : Img y mv k o o') : o'.sz = o.sz := by unfold Ob.sz; rw [h.n, h.ds]
theorem Img.start (y : Yg) (mv : List Int) (o : Ob) : Img y mv 0 o o := ⟨rfl, rfl, rfl, rfl, rfl, rfl, fun j h => absurd h (by omega), fun j _ => rfl⟩
theorem Img.mono {y : Yg} {mv mv' : List Int} {k : Nat} {o o' : Ob} (h : Img y mv k o o') (hm : ∀ a, mvA mv a ≠ 0 → mvA mv' a = mvA mv a) : Img y mv' k o o' :=
  ⟨h.C, h.l, h.f, h.d, h.ds, h.n, fun j h1 h2 => by
    rcases h.led j h1 h2 with h3 | ⟨h3, h4, h5⟩
    · exact .inl h3
    · exact .inr ⟨h3, by rw [hm _ (by rw [h4]; exact h5), h4], h5⟩, h.raw⟩
theorem Img.next {y : Yg} {mv : List Int} {k : Nat} {o o' : Ob} {r' : Int} (h : Img y mv k o o') (hl : Led y mv (o.rs.getD k 0) r') (hk : k < o.rs.length) : Img y mv (k + 1) o { o' with rs := o'.rs.set k r' } := by
  have hn := h.n
  refine ⟨h.C, h.l, h.f, h.d, h.ds, by rw [← hn]; simp, fun j h1 h2 => ?_, fun j h1 => ?_⟩
  · by_cases e : j = k
    · subst e
      simp only [List.getD_eq_getElem?_getD]
      rw [List.getElem?_set_self (by omega)]
      simpa [List.getD_eq_getElem?_getD] using hl
    · simp only [List.getD_eq_getElem?_getD]
      rw [List.getElem?_set_ne (by omega)]
      simpa [List.getD_eq_getElem?_getD] using h.led j (by omega) h2
  · simp only [List.getD_eq_getElem?_getD]
    rw [List.getElem?_set_ne (by omega)]
    simpa [List.getD_eq_getElem?_getD] using h.raw j (by omega)

structure Inv (f : Fx) (s : Mst) : Prop where
  n : s.xs.length = f.n
  mn : s.mv.length = f.n
  ys : ∀ x ∈ f.YS, s.ob x = f.ob x ∧ ObAt s.xs f.cs x (f.ob x)
  so : Seg s.xs f.cs s.ob f.y.OF (f.OS ++ s.PO) s.ot
  st : Seg s.xs f.cs s.ob f.y.TF s.LT s.tt
  oo : f.y.OT ≤ s.ot ∧ s.ot ≤ f.y.OE
  tto : s.tt ≤ f.y.TE
  os : ∀ x ∈ f.OS, s.src x = x ∧ (s.ob x).m = (f.ob x).m ∧ (s.ob x).F = (f.ob x).F
  im : ∀ b ∈ (f.OS ++ s.PO) ++ s.LT, Img f.y s.mv (s.dn b) (f.ob (s.src b)) (s.ob b)
  nw : ∀ b ∈ s.PO ++ s.LT, s.src b ∈ s.M ∧ mvA s.mv (s.src b) = b ∧ (s.ob b).m = false ∧ (s.ob b).F = 0
  po : ∀ b ∈ s.PO, f.y.OT ≤ b
  ag : ∀ b ∈ s.LT, (s.ob b).A = L4.olA (f.ob (s.src b)).A ∧ (f.ob (s.src b)).A < f.y.th
  mm : ∀ a ∈ s.M, a ∈ f.YS ∧ mvA s.mv a ∈ s.PO ++ s.LT ∧ s.src (mvA s.mv a) = a ∧ Rc f a
  mv : ∀ a, mvA s.mv a ≠ 0 → a.toNat ∈ s.M.map Int.toNat
  nd : s.M.Nodup
  sm : (szs f.ob s.M : Int) = (s.ot - f.y.OT) + (s.tt - f.y.TF)
  pl : ∀ b ∈ s.PO, (f.ob (s.src b)).A < f.y.th → f.y.TE < s.tt + ((f.ob (s.src b)).sz : Int)
section
variable {f : Fx} {s : Mst} {xs : List Int} {x y a b r r' : Int}
theorem mvA_zeros (n : Nat) (a : Int) : mvA (zeros n) a = 0 := zeros_get n a.toNat
theorem Inv.start (h : Wf f xs) : Inv f ⟨xs, zeros f.n, f.y.OT, f.y.TF, f.ob, [], [], id, [], fun _ => 0⟩ := by
  have o := h.ok.o
  have t := h.ok.t
  refine ⟨h.n, zeros_length _, fun x hx => ⟨rfl, h.at_ (List.mem_append_right _ hx)⟩, by simpa using h.so, rfl, ⟨by simp, o.2.2.1⟩, t.2.2.1, fun x _ => ⟨rfl, rfl, rfl⟩, fun b _ => Img.start _ _ _, (fun b hb => by simp at hb), (fun b hb => by simp at hb), (fun b hb => by simp at hb), (fun a ha => by cases ha), fun a ha => absurd (mvA_zeros _ _) ha, List.nodup_nil, ?_, (fun b hb => by simp at hb)⟩
  simp [szs_nil]
theorem Inv.tlo (h : Inv f s) : f.y.TF ≤ s.tt := h.st.le
/-- All that lies somewhere. -/
abbrev Mst.here (f : Fx) (s : Mst) : List Int := f.YS ++ ((f.OS ++ s.PO) ++ s.LT)
theorem Inv.at_ (h : Inv f s) (hx : x ∈ s.here f) : ObAt s.xs f.cs x (s.ob x) := by
  rcases List.mem_append.1 hx with hx | hx
  · obtain ⟨e, h1⟩ := h.ys x hx
    rw [e]; exact h1
  · rcases List.mem_append.1 hx with hx | hx
    · exact h.so.at_ hx
    · exact h.st.at_ hx
theorem Inv.yb (w : Wf f xs) (h : Inv f s) (hx : x ∈ f.YS) : (f.y.EF ≤ x ∧ x + (s.ob x).sz ≤ f.y.EE) ∨ (f.y.FF ≤ x ∧ x + (s.ob x).sz ≤ f.y.FE) := by
  have e := w.ok.e
  have g := w.ok.f
  rw [(h.ys x hx).1]
  rcases List.mem_append.1 hx with hx | hx
  · have := w.se.bd hx; exact .inl (by omega)
  · have := w.sf.bd hx; exact .inr (by omega)
theorem Inv.ob_ (h : Inv f s) (hx : x ∈ f.OS ++ s.PO) : f.y.OF ≤ x ∧ x + (s.ob x).sz ≤ f.y.OE := by
  have := h.so.bd hx
  have := h.oo
  omega
theorem Inv.tb_ (h : Inv f s) (hx : x ∈ s.LT) : f.y.TF ≤ x ∧ x + (s.ob x).sz ≤ f.y.TE := by
  have := h.st.bd hx
  have := h.tto
  omega
theorem Inv.yy (w : Wf f xs) (h : Inv f s) (hx : x ∈ f.YS) (hy : y ∈ f.YS) (hne : x ≠ y) : x + (s.ob x).sz ≤ y ∨ y + (s.ob y).sz ≤ x := by
  rw [(h.ys x hx).1, (h.ys y hy).1]
  have px := sz_pos (f.ob x)
  have py := sz_pos (f.ob y)
  have e1 := w.ok.e
  have e2 := w.ok.f
  rcases List.mem_append.1 hx with hx | hx <;> rcases List.mem_append.1 hy with hy | hy
  · exact w.se.apart hx hy hne
  · have k1 := w.se.bd hx
    have k2 := w.sf.bd hy
    exact w.ok.ef.ap (by omega) (by omega) (by omega) (by omega)
  · have k1 := w.sf.bd hx
    have k2 := w.se.bd hy
    exact w.ok.ef.sym.ap (by omega) (by omega) (by omega) (by omega)
  · exact w.sf.apart hx hy hne
/-- Young ones lie apart from what lies in Old, and in To. -/
theorem Inv.yo (w : Wf f xs) (h : Inv f s) (hx : x ∈ f.YS) {q : Int} (hq : 1 ≤ q) (hy : (f.y.OF ≤ y ∧ y + q ≤ f.y.OE) ∨ (f.y.TF ≤ y ∧ y + q ≤ f.y.TE)) : x + (s.ob x).sz ≤ y ∨ y + q ≤ x := by
  have px := sz_pos (s.ob x)
  rcases h.yb w hx with k | k <;> rcases hy with hy | hy
  · exact w.ok.oe.sym.ap k hy (by omega) hq
  · exact w.ok.et.ap k hy (by omega) hq
  · exact w.ok.of.sym.ap k hy (by omega) hq
  · exact w.ok.ft.ap k hy (by omega) hq
theorem Inv.apart (w : Wf f xs) (h : Inv f s) (hx : x ∈ s.here f) (hy : y ∈ s.here f) (hne : x ≠ y) : x + (s.ob x).sz ≤ y ∨ y + (s.ob y).sz ≤ x := by
  have px := sz_pos (s.ob x)
  have py := sz_pos (s.ob y)
  rcases List.mem_append.1 hx with hx | hx <;> rcases List.mem_append.1 hy with hy | hy
  · exact h.yy w hx hy hne
  · rcases List.mem_append.1 hy with hy | hy
    · exact h.yo w hx (by omega) (.inl (h.ob_ hy))
    · exact h.yo w hx (by omega) (.inr (h.tb_ hy))
  · rcases List.mem_append.1 hx with hx | hx
    · exact (h.yo w hy (by omega) (.inl (h.ob_ hx))).symm
    · exact (h.yo w hy (by omega) (.inr (h.tb_ hx))).symm
  · rcases List.mem_append.1 hx with hx | hx <;> rcases List.mem_append.1 hy with hy | hy
    · exact h.so.apart hx hy hne
    · exact w.ok.ot.ap (h.ob_ hx) (h.tb_ hy) (by omega) (by omega)
    · exact w.ok.ot.sym.ap (h.tb_ hx) (h.ob_ hy) (by omega) (by omega)
    · exact h.st.apart hx hy hne
theorem Inv.pos (w : Wf f xs) (h : Inv f s) (hx : x ∈ s.here f) : 1 ≤ x ∧ x + (s.ob x).sz ≤ f.n := by
  have := (h.at_ hx).len
  have h1 := (h.at_ hx).a1
  have := h.n
  exact ⟨h1, by omega⟩
/-- Room for one more. -/
theorem Inv.room (w : Wf f xs) (h : Inv f s) (hr : (f.y.ET - f.y.EF) + (f.y.FT - f.y.FF) ≤ f.y.OE - f.y.OT) (ha : a ∈ f.YS) (hn : a ∉ s.M) : s.ot + (f.ob a).sz ≤ f.y.OE := by
  have h1 := szs_sub (ob := f.ob) (M := s.M ++ [a]) (L := f.YS) (by
    rw [List.nodup_append]
    refine ⟨h.nd, List.nodup_cons.2 ⟨by simp, List.nodup_nil⟩, fun x hx z hz e => ?_⟩
    rw [List.mem_singleton.1 hz] at e
    exact hn (e ▸ hx)) (fun x hx => by
    rcases List.mem_append.1 hx with hx | hx
    · exact (h.mm x hx).1
    · rw [List.mem_singleton.1 hx]; exact ha)
  rw [szs_app, szs_cons, szs_nil] at h1
  have h2 := w.used
  have h3 := h.sm
  have h4 := h.tlo
  omega
theorem Inv.notM (w : Wf f xs) (h : Inv f s) (ha : a ∈ f.YS) : mvA s.mv a = 0 ↔ a ∉ s.M := by
  constructor
  · intro h0 hm
    have h1 := (h.mm a hm).2.1
    rw [h0] at h1
    have := h.pos w (x := 0) (by
      rcases List.mem_append.1 h1 with h1 | h1
      · exact List.mem_append_right _ (List.mem_append_left _ (List.mem_append_right _ h1))
      · exact List.mem_append_right _ (List.mem_append_right _ h1))
    omega
  · intro hn
    refine Classical.byContradiction fun h0 => ?_
    obtain ⟨b, hb, e⟩ := List.mem_map.1 (h.mv a h0)
    have h1 := (w.at_ (List.mem_append_right _ (h.mm b hb).1)).a1
    have h2 := (w.at_ (List.mem_append_right _ ha)).a1
    have : b = a := by omega
    exact hn (this ▸ hb)
/-- What isn't touched. -/
theorem keepX {ys : List Int} {k : Nat} {o : Ob} {cs : List Cl} (h : ObAt xs cs x o) (hb : 0 ≤ b) (he : ∀ j, j < b.toNat ∨ b.toNat + k ≤ j → ys[j]? = xs[j]?) (hd : x + o.sz ≤ b ∨ b + k ≤ x) : ObAt ys cs x o := by
  have h1 := h.a1
  exact h.keep fun j h2 h3 => he j (by omega)
theorem mvA_set (mv : List Int) {a : Int} (ha : a.toNat < mv.length) (z b : Int) : mvA (mv.set a.toNat b) z = if z.toNat = a.toNat then b else mvA mv z := by
  unfold mvA
  simp only [List.getD_eq_getElem?_getD]
  by_cases e : z.toNat = a.toNat
  · rw [if_pos e, e, List.getElem?_set_self ha]; rfl
  · rw [if_neg e, List.getElem?_set_ne (Ne.symm e)]
/-- A reference of an object that lies somewhere new is led on. -/
theorem Inv.lead {k : Nat} (w : Wf f xs) (h : Inv f s) (hb : b ∈ (f.OS ++ s.PO) ++ s.LT) (hk : s.dn b = k) (hl : k < (s.ob b).rs.length) (hr : Led f.y s.mv ((s.ob b).rs.getD k 0) r') :
    Inv f { s with xs := s.xs.set (b.toNat + (2 + k)) r', ob := up s.ob b { s.ob b with rs := (s.ob b).rs.set k r' }, dn := up s.dn b (k + 1) } := by
  have hbh : b ∈ s.here f := List.mem_append_right _ hb
  have hab := h.at_ hbh
  have hb1 := hab.a1
  have hsz : ({ s.ob b with rs := (s.ob b).rs.set k r' } : Ob).sz = (s.ob b).sz := by simp [Ob.sz]
  have hlt : 2 + k < (s.ob b).sz := by unfold Ob.sz; omega
  have hat : ObAt (s.xs.set (b.toNat + (2 + k)) r') f.cs b { s.ob b with rs := (s.ob b).rs.set k r' } := hab.setR hl r'
  have hfar : ∀ x ∈ s.here f, x ≠ b → ObAt (s.xs.set (b.toNat + (2 + k)) r') f.cs x (s.ob x) := fun x hx hne => by
    have hx1 := (h.at_ hx).a1
    have := h.apart w hx hbh hne
    exact (h.at_ hx).far (by omega) _
  have hany : ∀ x ∈ s.here f, (up s.ob b { s.ob b with rs := (s.ob b).rs.set k r' } x).sz = (s.ob x).sz ∧ ObAt (s.xs.set (b.toNat + (2 + k)) r') f.cs x (up s.ob b { s.ob b with rs := (s.ob b).rs.set k r' } x) := fun x hx => by
    by_cases e : x = b
    · subst e
      rw [up_at]
      exact ⟨hsz, hat⟩
    · rw [up_ne e]
      exact ⟨rfl, hfar x hx e⟩
  have hyb : ∀ x ∈ f.YS, x ≠ b := fun x hx e => by
    subst e
    have px := sz_pos (s.ob x)
    have := h.yo w hx (y := x) (q := (s.ob x).sz) (by omega) (by
      rcases List.mem_append.1 hb with hb | hb
      · exact .inl (h.ob_ hb)
      · exact .inr (h.tb_ hb))
    omega
  have hmf : ∀ x, (up s.ob b { s.ob b with rs := (s.ob b).rs.set k r' } x).m = (s.ob x).m ∧ (up s.ob b { s.ob b with rs := (s.ob b).rs.set k r' } x).F = (s.ob x).F ∧ (up s.ob b { s.ob b with rs := (s.ob b).rs.set k r' } x).A = (s.ob x).A := fun x => by
    by_cases e : x = b
    · subst e; rw [up_at]; exact ⟨rfl, rfl, rfl⟩
    · rw [up_ne e]; exact ⟨rfl, rfl, rfl⟩
  refine ⟨by simpa using h.n, h.mn, fun x hx => ?_, ?_, ?_, h.oo, h.tto, fun x hx => ?_, fun x hx => ?_, fun x hx => ?_, h.po, fun x hx => ?_, h.mm, h.mv, h.nd, h.sm, h.pl⟩
  · have hne := hyb x hx
    have e := (h.ys x hx).1
    have := hfar x (List.mem_append_left _ hx) hne
    rw [e] at this
    exact ⟨(up_ne hne).trans e, this⟩
  · exact h.so.put fun x hx => hany x (List.mem_append_right _ (List.mem_append_left _ hx))
  · exact h.st.put fun x hx => hany x (List.mem_append_right _ (List.mem_append_right _ hx))
  · have := h.os x hx
    have h2 := hmf x
    exact ⟨this.1, h2.1.trans this.2.1, h2.2.1.trans this.2.2⟩
  · have hi := h.im x hx
    by_cases e : x = b
    · subst e
      show Img _ _ (up s.dn x (k + 1) x) _ (up s.ob x _ x)
      rw [up_at, up_at]
      rw [hk] at hi
      have hraw := hi.raw k (Nat.le_refl _)
      exact hi.next (by rw [← hraw]; exact hr) (by rw [← hi.n]; exact hl)
    · show Img _ _ (up s.dn b (k + 1) x) _ (up s.ob b _ x)
      rw [up_ne e, up_ne e]
      exact hi
  · have := h.nw x hx
    have h2 := hmf x
    exact ⟨this.1, this.2.1, h2.1.trans this.2.2.1, h2.2.1.trans this.2.2.2⟩
  · have := h.ag x hx
    exact ⟨(hmf x).2.2.trans this.1, this.2⟩
/-- What a move makes of the state: a goes to b, one of the two ends; there it has the head of o'. -/
def Mst.put (s : Mst) (a b : Int) (o' : Ob) (T : Bool) : Mst :=
  { xs := (mvW s.xs b.toNat a.toNat o'.sz).set b.toNat (wd o'.C o'.A o'.F o'.m o'.f o'.d), mv := s.mv.set a.toNat b, ot := if T then s.ot else s.ot + o'.sz, tt := if T then s.tt + o'.sz else s.tt,
    ob := up s.ob b o', PO := if T then s.PO else s.PO ++ [b], LT := if T then s.LT ++ [b] else s.LT, src := up s.src b a, M := s.M ++ [a], dn := up s.dn b 0 }
theorem Inv.put {T : Bool} {A : Int} (w : Wf f xs) (h : Inv f s) (ha : a ∈ f.YS) (hn : a ∉ s.M) (hrc : Rc f a) (hb : b = if T then s.tt else s.ot) (hroom : b + (f.ob a).sz ≤ if T then f.y.TE else f.y.OE)
    (hA : A = if T then L4.olA (f.ob a).A else (f.ob a).A) (hth : T = true → (f.ob a).A < f.y.th) (hpl : T = false → (f.ob a).A < f.y.th → f.y.TE < s.tt + ((f.ob a).sz : Int)) : Inv f (s.put a b ((f.ob a).hd A 0 false (f.ob a).f (f.ob a).d) T) := by
  obtain ⟨o', ho'⟩ : ∃ o', o' = (f.ob a).hd A 0 false (f.ob a).f (f.ob a).d := ⟨_, rfl⟩
  have hsz : o'.sz = (f.ob a).sz := by rw [ho']; rfl
  have haY := w.at_ (List.mem_append_right _ ha)
  have hao := (h.ys a ha)
  have haa : ObAt s.xs f.cs a (f.ob a) := hao.2
  have ha1 := haa.a1
  have hal := haa.len
  have hxn := h.n
  have hp := sz_pos (f.ob a)
  have o := w.ok.o
  have t := w.ok.t
  have h1 := h.oo
  have h2 := h.tto
  have h3 := h.tlo
  have hb1 : 1 ≤ b := by cases T <;> simp at hb <;> omega
  have hbl : b.toNat + (f.ob a).sz ≤ s.xs.length := by cases T <;> simp at hb hroom <;> omega
  have hri : riB o'.C o'.A o'.F o'.f o'.d = true := by
    have := L4.ri_true haY.ok.ri
    rw [ho']
    refine L4.ri_mk (by simp [Ob.hd]; omega) (by simp [Ob.hd]; omega) ?_ ?_ (by simp [Ob.hd]) (by simp [Ob.hd]) this.2.2.2.2.2.2
    · simp only [Ob.hd, hA, L4.olA]; cases T <;> simp <;> (try split) <;> omega
    · simp only [Ob.hd, hA, L4.olA]; cases T <;> simp <;> (try split) <;> omega
  have hfarb : ∀ x ∈ s.here f, x ≠ b ∧ (x + (s.ob x).sz ≤ b ∨ b + (f.ob a).sz ≤ x) := fun x hx => by
    have px := sz_pos (s.ob x)
    have key : x + (s.ob x).sz ≤ b ∨ b + (f.ob a).sz ≤ x := by
      rcases List.mem_append.1 hx with hx | hx
      · refine h.yo w hx (by omega) ?_
        cases T with
        | true => simp at hb hroom; exact .inr (by omega)
        | false => simp at hb hroom; exact .inl (by omega)
      · rcases List.mem_append.1 hx with hx | hx
        · cases T with
          | true => simp at hb hroom; exact w.ok.ot.ap (h.ob_ hx) (by omega) (by omega) (by omega)
          | false => simp at hb; exact .inl (by have := (h.so.bd hx).2; omega)
        · cases T with
          | true => simp at hb; exact .inl (by have := (h.st.bd hx).2; omega)
          | false => simp at hb hroom; exact w.ok.ot.sym.ap (h.tb_ hx) (by omega) (by omega) (by omega)
    exact ⟨by omega, key⟩
  have hbb : ObAt (mvW s.xs b.toNat a.toNat o'.sz) f.cs b (f.ob a) := by rw [hsz]; exact haa.moved hb1 hbl
  have hnew : ObAt ((mvW s.xs b.toNat a.toNat o'.sz).set b.toNat (wd o'.C o'.A o'.F o'.m o'.f o'.d)) f.cs b o' := by
    have := hbb.setH (A := o'.A) (F := o'.F) (m := o'.m) (f := o'.f) (d := o'.d) (by rw [ho']; rw [ho'] at hri; exact hri)
    rw [ho'] at this ⊢
    exact this
  have hkeep : ∀ x ∈ s.here f, ObAt ((mvW s.xs b.toNat a.toNat o'.sz).set b.toNat (wd o'.C o'.A o'.F o'.m o'.f o'.d)) f.cs x (s.ob x) := fun x hx => by
    have hx1 := (h.at_ hx).a1
    have hf := (hfarb x hx).2
    rw [hsz]
    refine ((h.at_ hx).unmoved hbl hal (by omega)).far (by omega) _
  have hall : ∀ x ∈ s.here f, up s.ob b o' x = s.ob x ∧ ObAt ((mvW s.xs b.toNat a.toNat o'.sz).set b.toNat (wd o'.C o'.A o'.F o'.m o'.f o'.d)) f.cs x (s.ob x) := fun x hx => ⟨up_ne (hfarb x hx).1, hkeep x hx⟩
  have hmv0 : mvA s.mv a = 0 := (h.notM w ha).2 hn
  have hset : ∀ z, mvA (s.mv.set a.toNat b) z = if z.toNat = a.toNat then b else mvA s.mv z := fun z => mvA_set _ (by rw [h.mn]; omega) z b
  have hmono : ∀ z, mvA s.mv z ≠ 0 → mvA (s.mv.set a.toNat b) z = mvA s.mv z := fun z hz => by
    rw [hset, if_neg]
    intro e
    have : mvA s.mv z = mvA s.mv a := by unfold mvA; rw [e]
    exact hz (this.trans hmv0)
  have hbn : b ∉ (f.OS ++ s.PO) ++ s.LT := fun hm => (hfarb b (List.mem_append_right _ hm)).1 rfl
  have hmem : ∀ x, x ∈ (s.put a b o' T).PO ++ (s.put a b o' T).LT ↔ x ∈ s.PO ++ s.LT ∨ x = b := fun x => by
    cases T <;> simp [Mst.put] <;> (constructor <;> (intro h; simp only [or_comm, or_left_comm] at h ⊢; exact h))
  have hmem2 : ∀ x, x ∈ (f.OS ++ (s.put a b o' T).PO) ++ (s.put a b o' T).LT ↔ x ∈ (f.OS ++ s.PO) ++ s.LT ∨ x = b := fun x => by
    rw [List.append_assoc, List.append_assoc, List.mem_append, hmem x, List.mem_append (t := s.PO ++ s.LT)]
    exact or_assoc.symm
  have hnewImg : Img f.y (s.mv.set a.toNat b) 0 (f.ob a) o' := by
    rw [ho']
    exact ⟨rfl, rfl, rfl, rfl, rfl, rfl, fun j hj => absurd hj (by omega), fun j _ => rfl⟩
  rw [← ho']
  refine ⟨?_, ?_, fun x hx => ?_, ?_, ?_, ?_, ?_, fun x hx => ?_, fun x hx => ?_, fun x hx => ?_, fun x hx => ?_, fun x hx => ?_, fun x hx => ?_, fun z hz => ?_, ?_, ?_, fun x hx => ?_⟩
  · show ((mvW s.xs b.toNat a.toNat o'.sz).set b.toNat _).length = f.n
    rw [List.length_set, hsz, mvW_length hbl hal]; exact h.n
  · show (s.mv.set a.toNat b).length = f.n
    rw [List.length_set]; exact h.mn
  · have hh := hall x (List.mem_append_left _ hx)
    have e := (h.ys x hx).1
    exact ⟨hh.1.trans e, e ▸ hh.2⟩
  · have hold : Seg (s.put a b o' T).xs f.cs (s.put a b o' T).ob f.y.OF (f.OS ++ s.PO) s.ot := h.so.keep fun x hx => hall x (List.mem_append_right _ (List.mem_append_left _ hx))
    cases T with
    | true => exact hold
    | false =>
      simp at hb
      have : Seg (s.put a b o' false).xs f.cs (s.put a b o' false).ob s.ot [b] (s.ot + o'.sz) := by
        rw [← hb]
        have := Seg.one (xs := (s.put a b o' false).xs) (cs := f.cs) (ob := (s.put a b o' false).ob) (a := b) (by show ObAt _ _ b (up s.ob b o' b); rw [up_at]; exact hnew)
        rwa [show (s.put a b o' false).ob b = o' from up_at _ _ _] at this
      have := hold.app this
      rwa [List.append_assoc] at this
  · have hold : Seg (s.put a b o' T).xs f.cs (s.put a b o' T).ob f.y.TF s.LT s.tt := h.st.keep fun x hx => hall x (List.mem_append_right _ (List.mem_append_right _ hx))
    cases T with
    | false => exact hold
    | true =>
      simp at hb
      have : Seg (s.put a b o' true).xs f.cs (s.put a b o' true).ob s.tt [b] (s.tt + o'.sz) := by
        rw [← hb]
        have := Seg.one (xs := (s.put a b o' true).xs) (cs := f.cs) (ob := (s.put a b o' true).ob) (a := b) (by show ObAt _ _ b (up s.ob b o' b); rw [up_at]; exact hnew)
        rwa [show (s.put a b o' true).ob b = o' from up_at _ _ _] at this
      exact hold.app this
  · cases T <;> simp at hb hroom <;> simp [Mst.put] <;> omega
  · cases T <;> simp at hb hroom <;> simp [Mst.put] <;> omega
  · have hh := hall x (List.mem_append_right _ (List.mem_append_left _ (List.mem_append_left _ hx)))
    have hne := (hfarb x (List.mem_append_right _ (List.mem_append_left _ (List.mem_append_left _ hx)))).1
    have := h.os x hx
    show up s.src b a x = x ∧ (up s.ob b o' x).m = _ ∧ (up s.ob b o' x).F = _
    rw [up_ne hne, hh.1]
    exact this
  · show Img f.y (s.mv.set a.toNat b) (up s.dn b 0 x) (f.ob (up s.src b a x)) (up s.ob b o' x)
    rcases (hmem2 x).1 hx with hx | hx
    · have hne : x ≠ b := fun e => hbn (e ▸ hx)
      rw [up_ne hne, up_ne hne, up_ne hne]
      exact (h.im x hx).mono hmono
    · subst hx
      rw [up_at, up_at, up_at]
      exact hnewImg
  · show up s.src b a x ∈ s.M ++ [a] ∧ mvA (s.mv.set a.toNat b) (up s.src b a x) = x ∧ (up s.ob b o' x).m = false ∧ (up s.ob b o' x).F = 0
    rcases (hmem x).1 hx with hx | hx
    · have hne : x ≠ b := fun e => hbn (e ▸ by rw [List.append_assoc]; exact List.mem_append_right _ hx)
      rw [up_ne hne, up_ne hne]
      obtain ⟨k1, k2, k3, k4⟩ := h.nw x hx
      refine ⟨List.mem_append_left _ k1, ?_, k3, k4⟩
      rw [hmono _ ?_, k2]
      rw [k2]
      have := h.pos w (x := x) (List.mem_append_right _ (by rw [List.append_assoc]; exact List.mem_append_right _ hx))
      omega
    · subst hx
      rw [up_at, up_at, hset, if_pos rfl]
      refine ⟨List.mem_append_right _ (List.mem_singleton.2 rfl), rfl, by rw [ho']; rfl, by rw [ho']; rfl⟩
  · cases T with
    | true => exact h.po x hx
    | false =>
      rcases List.mem_append.1 (show x ∈ s.PO ++ [b] from hx) with hx | hx
      · exact h.po x hx
      · rw [List.mem_singleton.1 hx]; simp at hb; omega
  · have hold : x ∈ s.LT → (up s.ob b o' x).A = L4.olA (f.ob (up s.src b a x)).A ∧ (f.ob (up s.src b a x)).A < f.y.th := fun hx => by
      have hne : x ≠ b := fun e => hbn (e ▸ List.mem_append_right _ hx)
      rw [up_ne hne, up_ne hne]
      exact h.ag x hx
    cases T with
    | false => exact hold hx
    | true =>
      rcases List.mem_append.1 (show x ∈ s.LT ++ [b] from hx) with hx | hx
      · exact hold hx
      · have hx := List.mem_singleton.1 hx
        subst hx
        show (up s.ob x o' x).A = L4.olA (f.ob (up s.src x a x)).A ∧ (f.ob (up s.src x a x)).A < f.y.th
        rw [up_at, up_at]
        exact ⟨by rw [ho']; exact hA, hth rfl⟩
  · show x ∈ f.YS ∧ mvA (s.mv.set a.toNat b) x ∈ (s.put a b o' T).PO ++ (s.put a b o' T).LT ∧ up s.src b a (mvA (s.mv.set a.toNat b) x) = x ∧ Rc f x
    rcases List.mem_append.1 (show x ∈ s.M ++ [a] from hx) with hx | hx
    · obtain ⟨k1, k2, k3, k4⟩ := h.mm x hx
      have hx0 : mvA s.mv x ≠ 0 := fun e => ((h.notM w k1).1 e) hx
      rw [hmono x hx0]
      refine ⟨k1, (hmem _).2 (.inl k2), ?_, k4⟩
      rw [up_ne, k3]
      intro e
      exact hbn (e ▸ by rw [List.append_assoc]; exact List.mem_append_right _ k2)
    · have hx := List.mem_singleton.1 hx
      subst hx
      rw [hset, if_pos rfl, up_at]
      exact ⟨ha, (hmem _).2 (.inr rfl), rfl, hrc⟩
  · show z.toNat ∈ (s.M ++ [a]).map Int.toNat
    change mvA (s.mv.set a.toNat b) z ≠ 0 at hz
    rw [List.map_append, List.mem_append]
    rw [hset] at hz
    by_cases e : z.toNat = a.toNat
    · right; simp [e]
    · rw [if_neg e] at hz
      exact .inl (h.mv z hz)
  · show (s.M ++ [a]).Nodup
    rw [List.nodup_append]
    refine ⟨h.nd, List.nodup_cons.2 ⟨by simp, List.nodup_nil⟩, fun x hx z hz e => ?_⟩
    rw [List.mem_singleton.1 hz] at e
    exact hn (e ▸ hx)
  · show (szs f.ob (s.M ++ [a]) : Int) = _
    have := h.sm
    rw [szs_app, szs_cons, szs_nil]
    cases T <;> simp [Mst.put, hsz] <;> omega
  · show (f.ob (up s.src b a x)).A < f.y.th → f.y.TE < (s.put a b o' T).tt + ((f.ob (up s.src b a x)).sz : Int)
    have hold : x ∈ s.PO → (f.ob (up s.src b a x)).A < f.y.th → f.y.TE < (s.put a b o' T).tt + ((f.ob (up s.src b a x)).sz : Int) := fun hx hl => by
      have hne : x ≠ b := fun e => hbn (e ▸ List.mem_append_left _ (List.mem_append_right _ hx))
      rw [up_ne hne] at hl ⊢
      have := h.pl x hx hl
      cases T <;> simp [Mst.put] <;> omega
    cases T with
    | true => exact hold hx
    | false =>
      rcases List.mem_append.1 (show x ∈ s.PO ++ [b] from hx) with hx | hx
      · exact hold hx
      · have hx := List.mem_singleton.1 hx
        subst hx
        rw [up_at]
        exact hpl rfl
end
end Go.Proofs.YtogfjclmohpjkaaGreatDoor.L15
