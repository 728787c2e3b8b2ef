/- Graphs: Keep: how many go; who stays, with which references. Conditions: a graph has fewer than 1000000 nodes, and fewer than 1000000 are named. -/
import Derived.Test.YtjofdamobnemcaaL9Forget
namespace Go.Proofs.Ytjofdamobnemcaa.L9
open Go.ChangeShapes Go.WideShapes Go.ChangeAt Go.RowKit Go.Maps
open Go.Proofs.Ytjofdamobnemcaa.L5 (Cl clV rtB Tb clAt shX shR shD woV hoB IsCls newX isRf)
set_option linter.unusedVariables false

/-- Is a number among some? -/
def hasB (l : List Int) (y : Int) : Bool := l.any fun z => decide (z = y)
theorem hasB_step (l : List Int) (k : Nat) (hk : k < l.length) : hasB (l.take (k + 1)) = fun y => decide (y = l.getD k 0) || hasB (l.take k) y := by
  funext y
  unfold hasB
  rw [List.take_add_one, List.getElem?_eq_getElem hk, List.any_append, List.getD_eq_getElem?_getD, List.getElem?_eq_getElem hk]
  simp [Bool.or_comm, eq_comm]
/-- Who stays, with which references. -/
def kpL (L : List Nd) (l : List Int) : List Nd := (L.filter fun x => hasB l x.id).map fun x => { x with refs := x.refs.map fun t => if hasB l t && (nd L t).isSome then t else 0 }
def kpN (L : List Nd) (l : List Int) : Nat := (L.filter fun x => !hasB l x.id).length
section
variable {w w' : World} {z p m tb : Nat} {S : Nat → Prop} {f : Int → Option Nat} {ow : Nat → Int} {cs : List Cl} {L : List Nd} {x : Nd} {i : Int} {zs : List Int}
/-- Who is gone. -/
def gone (kp : Int → Bool) (left : Int → Bool) (y : Nd) : Bool := !kp y.id && !left y.id
theorem gone_start (h : Gr w z S p m tb f ow cs L) (kp : Int → Bool) : L.filter (gone kp fun x => (f x).isSome) = [] := by
  refine List.filter_eq_nil_iff.2 fun y hy => ?_
  obtain ⟨b, hb, _⟩ := h.nds y hy
  simp [gone, hb]
theorem gone_end {kp left : Int → Bool} (hl : ∀ x, left x = false) : L.filter (gone kp left) = L.filter fun y => !kp y.id := List.filter_congr fun y _ => by simp [gone, hl]
theorem gone_no {kp left : Int → Bool} {i : Int} (hk : kp i = true) : gone kp (fun y => left y && !decide (y = i)) = gone kp left := by
  funext y
  unfold gone
  by_cases e : y.id = i
  · simp [e, hk]
  · simp [e]
theorem gone_len {kp left : Int → Bool} (hs : Srt L) (hx : x ∈ L) (hl : left x.id = true) (hk : kp x.id = false) : (L.filter (gone kp fun y => left y && !decide (y = x.id))).length = (L.filter (gone kp left)).length + 1 := by
  have := len_step (p := fun i => !kp i && !left i) hs hx (by simp [hl])
  rw [← show (L.filter fun y => (!kp y.id && !left y.id)) = L.filter (gone kp left) from rfl, ← this]
  congr 1
  refine List.filter_congr fun y _ => ?_
  unfold gone
  by_cases e : y.id = x.id
  · simp [e, hk]
  · simp [e]
/-- What the map says. -/
def stF (f : Int → Option Nat) (kp left : Int → Bool) (y : Int) : Option Nat := if kp y || left y then f y else none
theorem stF_start (f : Int → Option Nat) (kp : Int → Bool) : stF f kp (fun x => (f x).isSome) = f := by
  funext y
  unfold stF
  cases h : f y <;> simp [h]
theorem stF_end {kp left : Int → Bool} (hl : ∀ x, left x = false) : stF f kp left = fun y => if kp y then f y else none := by
  funext y
  simp [stF, hl]
theorem stF_no {kp left : Int → Bool} {i : Int} (hk : kp i = true) : stF f kp (fun y => left y && !decide (y = i)) = stF f kp left := by
  funext y
  unfold stF
  by_cases e : y = i
  · simp [e, hk]
  · simp [e]
theorem stF_yes {kp left : Int → Bool} {i : Int} (hk : kp i = false) : stF f kp (fun y => left y && !decide (y = i)) = fun y => if y = i then none else stF f kp left y := by
  funext y
  unfold stF
  by_cases e : y = i
  · simp [e, hk]
  · simp [e]
/-- Those that stay, as a graph. -/
theorem Gr.keep (h : Gr w z S p m tb f ow cs L) (kp : Int → Bool) (c : Chg (· = m) w w') (hM : Mn w' m fun y => if kp y then f y else none) : Gr w' z S p m tb (fun y => if kp y then f y else none) ow cs (L.filter fun x => kp x.id) where
  blk := h.blk.chg c h.pm
  map := hM
  sp := h.sp
  sm := h.sm
  pm := h.pm
  om := h.om
  s := fun k hk => ⟨(h.s k hk).1, Nat.lt_of_lt_of_le (h.s k hk).2 c.size⟩
  nds := fun x hx => by
    obtain ⟨hx, hk⟩ := List.mem_filter.1 hx
    obtain ⟨b, h1, h2⟩ := h.nds x hx
    have hx1 := (h.ok x hx).id1
    refine ⟨b, by simp only [hk, if_true]; exact h1, h2.chg c fun k _ ho hkm => ?_⟩
    rw [hkm, h.om.1] at ho
    omega
  no := fun i hi => by
    cases hk : kp i with
    | false => simp [hk] at hi
    | true =>
      simp only [hk, if_true] at hi
      obtain ⟨x, hx, e⟩ := h.no i hi
      exact ⟨x, List.mem_filter.2 ⟨hx, by rw [e]; exact hk⟩, e⟩
  srt := h.srt.filter _
  ok := fun x hx => h.ok x (List.mem_filter.1 hx).1
  tab := by
    obtain ⟨base, v, t, t1, t2⟩ := h.tab
    exact ⟨base, v, Tb.chgT t t1 t2 c (fun k hk => by rw [hk]; exact (h.s m h.sm).1), t1, t2⟩
  cl := h.cl
  rt := h.rt
theorem Gr.f_nd (h : Gr w z S p m tb f ow cs L) (i : Int) : (f i).isSome = (nd L i).isSome := by
  cases hn : nd L i with
  | none => rw [h.f_none hn]; rfl
  | some x =>
    obtain ⟨b, hb, _⟩ := h.f_some hn
    rw [hb]
    rfl
theorem kp_clr (h : Gr w z S p m tb f ow cs L) (l : List Int) : (L.filter fun x => hasB l x.id).map (clr fun y => if hasB l y then f y else none) = kpL L l := by
  unfold kpL
  refine List.map_congr_left fun x _ => ?_
  unfold clr
  congr 1
  refine List.map_congr_left fun t _ => ?_
  unfold c1
  rw [← h.f_nd]
  cases hb : hasB l t <;> simp [hb]
end
end Go.Proofs.Ytjofdamobnemcaa.L9
