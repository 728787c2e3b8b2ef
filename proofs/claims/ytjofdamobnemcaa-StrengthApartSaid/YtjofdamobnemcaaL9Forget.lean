/- Graphs: forget: references to what is gone are cleared. Conditions: none. -/
import Derived.Test.YtjofdamobnemcaaL9Rg
import Derived.Test.YtjofdamobnemcaaL9Words
namespace Go.Proofs.Ytjofdamobnemcaa.L9
open Go.ChangeShapes Go.WideShapes Go.ChangeAt Go.RowKit Go.Maps
open Go.Proofs.Ytjofdamobnemcaa.L5 (Cl clV rtB Tb clAt shX shR shD woV hoB IsCls newX isRf)
set_option linter.unusedVariables false

/-- A reference to what is not there, cleared. -/
def c1 (f : Int → Option Nat) (t : Int) : Int := if (f t).isSome then t else 0
def clr (f : Int → Option Nat) (x : Nd) : Nd := { x with refs := x.refs.map (c1 f) }
def clrL (f : Int → Option Nat) (left : Int → Bool) (x : Nd) : Nd := if left x.id then x else clr f x
/-- The first k references are cleared. -/
def clK (f : Int → Option Nat) (l : List Int) (k : Nat) : List Int := (l.take k).map (c1 f) ++ l.drop k
section
variable {w w' : World} {z p m tb : Nat} {S : Nat → Prop} {f : Int → Option Nat} {ow : Nat → Int} {cs : List Cl} {L : List Nd} {x : Nd} {i : Int}
theorem clK_zero (l : List Int) : clK f l 0 = l := by simp [clK]
theorem clK_all (l : List Int) : clK f l l.length = l.map (c1 f) := by simp [clK]
theorem clK_len (l : List Int) (k : Nat) : (clK f l k).length = l.length := by simp [clK]; omega
theorem clK_get (l : List Int) (k : Nat) : (clK f l k).getD k 0 = l.getD k 0 := by
  rcases Nat.lt_or_ge k l.length with h | h
  · have hl : ((l.take k).map (c1 f)).length = k := by simp; omega
    unfold clK
    rw [List.getD_eq_getElem?_getD, List.getElem?_append_right (by omega), hl]
    simp [List.getD_eq_getElem?_getD]
  · have h1 := clK_len (f := f) l k
    rw [List.getD_eq_getElem?_getD, List.getD_eq_getElem?_getD, List.getElem?_eq_none (by omega), List.getElem?_eq_none h]
theorem clK_step (l : List Int) (k : Nat) (hk : k < l.length) : clK f l (k + 1) = (clK f l k).set k (c1 f (l.getD k 0)) := by
  have hl : ((l.take k).map (c1 f)).length = k := by simp; omega
  have e1 : l.take (k + 1) = l.take k ++ [l.getD k 0] := by
    rw [List.take_add_one, List.getElem?_eq_getElem hk, List.getD_eq_getElem?_getD, List.getElem?_eq_getElem hk]
    rfl
  have e2 : l.drop k = l.getD k 0 :: l.drop (k + 1) := by
    rw [List.drop_eq_getElem_cons hk, List.getD_eq_getElem?_getD, List.getElem?_eq_getElem hk]
    rfl
  unfold clK
  rw [e1, e2, List.set_append_right _ _ (by omega), hl]
  simp
theorem updN_refs (L : List Nd) (i : Int) (l : List Int) (k : Nat) (t : Int) :
    updN (updN L i fun y => { y with refs := l }) i (fun y => { y with refs := y.refs.set k t }) = updN L i fun y => { y with refs := l.set k t } := by
  unfold updN
  rw [List.map_map]
  refine List.map_congr_left fun y _ => ?_
  show (if (if y.id = i then { y with refs := l } else y).id = i then _ else _) = _
  by_cases e : y.id = i
  · simp [e]
  · simp [e]
theorem clrL_id (left : Int → Bool) (x : Nd) : (clrL f left x).id = x.id := by
  unfold clrL clr
  split <;> rfl
theorem clr_start (h : Gr w z S p m tb f ow cs L) : L.map (clrL f fun x => (f x).isSome) = L := by
  refine (List.map_congr_left fun y hy => ?_).trans (List.map_id L)
  obtain ⟨b, hb, _⟩ := h.nds y hy
  simp [clrL, hb]
theorem clr_end {left : Int → Bool} (hl : ∀ x, left x = false) (L : List Nd) : L.map (clrL f left) = L.map (clr f) := List.map_congr_left fun y _ => by simp [clrL, hl]
theorem nd_clr (hs : Srt L) (left : Int → Bool) (hx : x ∈ L) (hl : left x.id = true) : nd (L.map (clrL f left)) x.id = some x := by
  have hs' : Srt (L.map (clrL f left)) := srt_of_ids hs (by rw [List.map_map]; exact List.map_congr_left fun y _ => clrL_id left y)
  have hm : x ∈ L.map (clrL f left) := List.mem_map.2 ⟨x, hx, by simp [clrL, hl]⟩
  exact nd_mem hs' hm
theorem clr_step (hs : Srt L) (left : Int → Bool) (hx : x ∈ L) (hl : left x.id = true) :
    updN (L.map (clrL f left)) x.id (fun y => { y with refs := x.refs.map (c1 f) }) = L.map (clrL f fun y => left y && !decide (y = x.id)) := by
  unfold updN
  rw [List.map_map]
  refine List.map_congr_left fun y hy => ?_
  show (if (clrL f left y).id = x.id then { clrL f left y with refs := x.refs.map (c1 f) } else clrL f left y) = _
  rw [clrL_id]
  by_cases e : y.id = x.id
  · obtain rfl := srt_inj hs hy hx e
    simp [clrL, hl, clr]
  · simp [clrL, e]
theorem updN_same (hs : Srt L) (hx : nd L i = some x) (l : List Int) (hl : l = x.refs) : updN L i (fun y => { y with refs := l }) = L := by
  subst hl
  unfold updN
  refine (List.map_congr_left fun y hy => ?_).trans (List.map_id L)
  obtain ⟨hm, e⟩ := nd_some hx
  split
  · rename_i h
    obtain rfl := srt_inj hs hy hm (by omega)
    rfl
  · rfl
/-- The state inside: node x's first k references are cleared. -/
structure Fo (w wr : World) (z : Nat) (S : Nat → Prop) (p m tb : Nat) (f : Int → Option Nat) (ow : Nat → Int) (cs : List Cl) (L : List Nd) (x : Nd) (b br bd r : Nat) (left : Int → Bool) (cnt k : Nat) : Prop where
  nod : Nod wr S ow b br bd { x with refs := clK f x.refs k }
  gr : Gr wr z S p m tb f ow cs (updN L x.id fun y => { y with refs := clK f x.refs k })
  rg : Rg wr m r f left cnt
  chg : Chg S w wr
theorem Fo.step {wr : World} {b br bd r : Nat} {left : Int → Bool} {cnt k : Nat} (h : Fo w wr z S p m tb f ow cs L x b br bd r left cnt k) (hn : nd L x.id = some x) (hb : f x.id = some b) (hk : k < x.refs.length) (hr : w.heap.size ≤ r) (hbr : br < w.heap.size) (hx0 : 1 ≤ x.id) (hq : c1 f (x.refs.getD k 0) = 0) :
    Fo w (wr.setCell ⟨br, k, none⟩ (.int .i64 0)) z S p m tb f ow cs L x b br bd r left cnt (k + 1) := by
  have hn' : nd (updN L x.id fun y => { y with refs := clK f x.refs k }) x.id = some { x with refs := clK f x.refs k } := by
    rw [nd_upd (fun y : Nd => { y with refs := clK f x.refs k }) (fun _ => rfl), if_pos rfl, hn]
    rfl
  have hok := h.gr.ok _ (nd_some hn').1
  have hs := clK_step (f := f) x.refs k hk
  rw [hq] at hs
  obtain ⟨h1, h2⟩ := h.gr.ofNod hn' hb h.nod (.inr (.inl rfl)) (k0 := k) (fun y => { y with refs := y.refs.set k 0 }) (fun _ => rfl) (hok.setRef k (show (Lit.int .i64 0).wf = true by decide)) (h.nod.setRef k 0)
  rw [updN_refs, ← hs] at h1
  have hne : m ≠ br := by
    intro e
    have o1 := h.nod.2.2.2.2.1.2.1
    have o2 := h.gr.om.1
    rw [← e, o2] at o1
    have : (0 : Int) = x.id := o1
    omega
  refine ⟨?_, h1, h.rg.chg ((Chg.refl _ _).set1 _ _) hne (by show ¬ r = br; omega), h.chg.trans h2⟩
  rw [hs]
  exact h.nod.setRef k 0
theorem Fo.skip {wr : World} {b br bd r : Nat} {left : Int → Bool} {cnt k : Nat} (h : Fo w wr z S p m tb f ow cs L x b br bd r left cnt k) (hk : k < x.refs.length) (hq : c1 f (x.refs.getD k 0) = x.refs.getD k 0) :
    Fo w wr z S p m tb f ow cs L x b br bd r left cnt (k + 1) := by
  have hs := clK_step (f := f) x.refs k hk
  have e : (clK f x.refs k).set k (x.refs.getD k 0) = clK f x.refs k := by
    have hl := clK_len (f := f) x.refs k
    have hg := clK_get (f := f) x.refs k
    rw [← hg, List.getD_eq_getElem?_getD, List.getElem?_eq_getElem (by omega)]
    exact List.set_getElem_self _
  rw [hq, e] at hs
  exact ⟨hs ▸ h.nod, hs ▸ h.gr, h.rg, h.chg⟩
end
end Go.Proofs.Ytjofdamobnemcaa.L9
