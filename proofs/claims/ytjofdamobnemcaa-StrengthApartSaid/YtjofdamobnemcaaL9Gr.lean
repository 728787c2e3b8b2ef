/- Graphs: the nodes as a list, what a graph's memory is, and the table of its classes. Conditions: the classes can be; there are at most 100. -/
import Derived.Test.YtjofdamobnemcaaInts
import Derived.Test.YtjofdamobnemcaaOwn
import Derived.Test.YtjofdamobnemcaaL9Mn
import Derived.Test.YtjofdamobnemcaaL5Awake
namespace Go.Proofs.Ytjofdamobnemcaa.L9
open Go.ChangeShapes Go.WideShapes Go.ChangeAt Go.RowKit Go.Maps
open Go.Proofs.Ytjofdamobnemcaa.L5 (Cl clV rtB Tb clAt shX shR shD woV hoB IsCls newX isRf)
set_option linter.unusedVariables false

/-- A node. -/
structure Nd where
  id : Int
  c : Int
  refs : List Int
  data : List Int
  fin : Bool
def Nd.wo (x : Nd) : Nat := 2 + x.refs.length + x.data.length
/-- A number fits an int. -/
def In64 (x : Int) : Prop := (Lit.int .i64 x).wf = true
/-- A node that can be. -/
structure Nd.Ok (cs : List Cl) (x : Nd) : Prop where
  id1 : 1 ≤ x.id
  id2 : In64 x.id
  rl : x.refs.length ≤ 30
  dl : x.data.length ≤ 30
  rw_ : ∀ r ∈ x.refs, In64 r
  cl : ∃ c, clAt cs x.c = some c ∧ (isRf c.k = true → 0 < x.refs.length)
/-- Node x lies in block b: its references, its numbers in blocks of their own. -/
def Nod (w : World) (S : Nat → Prop) (ow : Nat → Int) (b br bd : Nat) (x : Nd) : Prop :=
  Blk w b 87 [.int .i64 x.id, .int .i64 x.c, .slice (some ⟨br, 0, none⟩) x.refs.length x.refs.length, .slice (some ⟨bd, 0, none⟩) x.data.length x.data.length, .bool x.fin, .int .i64 x.wo] ∧
    Blk w br 3 (ints x.refs) ∧ Blk w bd 3 (ints x.data) ∧ br ≠ bd ∧ (ow b = x.id ∧ ow br = x.id ∧ ow bd = x.id) ∧ S b ∧ S br ∧ S bd
def IsNd (w : World) (S : Nat → Prop) (ow : Nat → Int) (b : Nat) (x : Nd) : Prop := ∃ br bd, Nod w S ow b br bd x
/-- The names rise. -/
def Srt (L : List Nd) : Prop := L.Pairwise (fun a b => a.id < b.id)
/-- A graph at block p: map m, by f; whose node a block belongs to, by ow; its blocks, S; its table of classes lies ahead of z. -/
structure Gr (w : World) (z : Nat) (S : Nat → Prop) (p m tb : Nat) (f : Int → Option Nat) (ow : Nat → Int) (cs : List Cl) (L : List Nd) : Prop where
  blk : Blk w p 78 [.pointer (some ⟨tb, 0, none⟩), .map (some m)]
  map : Mn w m f
  sp : S p
  sm : S m
  pm : p ≠ m
  om : ow m = 0 ∧ ow p = 0
  s : ∀ k, S k → z ≤ k ∧ k < w.heap.size
  nds : ∀ x ∈ L, ∃ b, f x.id = some b ∧ IsNd w S ow b x
  no : ∀ i, f i ≠ none → ∃ x ∈ L, x.id = i
  srt : Srt L
  ok : ∀ x ∈ L, x.Ok cs
  tab : ∃ base v, Tb w base (some ⟨tb, 0, none⟩) v cs ∧ tb < z ∧ ∀ k, v.ownBlock = some k → k < z
  cl : cs.length ≤ 100
  rt : cs.all Cl.rt = true
/-- The node with a name. -/
def nd (L : List Nd) (i : Int) : Option Nd := L.find? fun x => x.id == i

section
variable {w w' : World} {z p m tb : Nat} {S T : Nat → Prop} {f : Int → Option Nat} {ow : Nat → Int} {cs : List Cl} {L : List Nd} {x : Nd} {b : Nat} {i : Int}
theorem nd_some (h : nd L i = some x) : x ∈ L ∧ x.id = i := by
  unfold nd at h
  exact ⟨List.mem_of_find?_eq_some h, by simpa using List.find?_some h⟩
theorem nd_none (h : nd L i = none) : ∀ x ∈ L, x.id ≠ i := by
  unfold nd at h
  simpa using h
theorem srt_inj (h : Srt L) {x y : Nd} (hx : x ∈ L) (hy : y ∈ L) (e : x.id = y.id) : x = y := by
  unfold Srt at h
  induction L with
  | nil => cases hx
  | cons a l ih =>
    obtain ⟨h1, h2⟩ := List.pairwise_cons.1 h
    rcases List.mem_cons.1 hx with rfl | hx'
    · rcases List.mem_cons.1 hy with rfl | hy'
      · rfl
      · have := h1 y hy'; omega
    · rcases List.mem_cons.1 hy with rfl | hy'
      · have := h1 x hx'; omega
      · exact ih h2 hx' hy'
theorem nd_mem (h : Srt L) (hx : x ∈ L) : nd L x.id = some x := by
  cases hf : nd L x.id with
  | none => exact absurd rfl (nd_none hf x hx)
  | some y =>
    obtain ⟨hy, e⟩ := nd_some hf
    rw [srt_inj h hy hx e]
theorem srt_nodup (h : Srt L) : (L.map Nd.id).Nodup := by
  unfold Srt at h
  rw [List.Nodup, List.pairwise_map]
  exact h.imp fun h => by omega
theorem IsNd.chg (h : IsNd w S ow b x) (c : Chg T w w') (hs : ∀ k, S k → ow k = x.id → ¬ T k) : IsNd w' S ow b x := by
  obtain ⟨br, bd, h1, h2, h3, h4, ⟨o1, o2, o3⟩, s1, s2, s3⟩ := h
  exact ⟨br, bd, h1.chg c (hs _ s1 o1), h2.chg c (hs _ s2 o2), h3.chg c (hs _ s3 o3), h4, ⟨o1, o2, o3⟩, s1, s2, s3⟩
theorem IsNd.wide {S' : Nat → Prop} {ow' : Nat → Int} (h : IsNd w S ow b x) (hs : ∀ k, S k → S' k) (ho : ∀ k, S k → ow' k = ow k) : IsNd w S' ow' b x := by
  obtain ⟨br, bd, h1, h2, h3, h4, ⟨o1, o2, o3⟩, s1, s2, s3⟩ := h
  exact ⟨br, bd, h1, h2, h3, h4, ⟨by rw [ho _ s1, o1], by rw [ho _ s2, o2], by rw [ho _ s3, o3]⟩, hs _ s1, hs _ s2, hs _ s3⟩
theorem Tb.chgT {base : Nat} {v : Value} (h : Tb w base (some ⟨tb, 0, none⟩) v cs) (h1 : tb < z) (h2 : ∀ k, v.ownBlock = some k → k < z) (c : Chg T w w') (hT : ∀ k, T k → z ≤ k) : Tb w' base (some ⟨tb, 0, none⟩) v cs := by
  obtain ⟨t1, t2⟩ := h
  refine ⟨own_chg t1 c (fun k hk hS => ?_), ?_⟩
  · have := hT k hS; have := h2 k hk; omega
  · rcases t2 with t2 | ⟨k, e, hb, hk⟩
    · exact .inl t2
    · refine .inr ⟨k, e, hb, hk.chg c (fun hS => ?_)⟩
      injection e with e
      injection e with e
      have := hT k hS
      omega
/-- What changes elsewhere. -/
theorem Gr.chg (h : Gr w z S p m tb f ow cs L) (c : Chg T w w') (hT : ∀ k, T k → z ≤ k) (hs : ∀ k, S k → ¬ T k) : Gr w' z S p m tb f ow cs L where
  blk := h.blk.chg c (hs _ h.sp)
  map := h.map.chg c (hs _ h.sm)
  sp := h.sp
  sm := h.sm
  pm := h.pm
  om := h.om
  s := fun k hk => ⟨(h.s k hk).1, Nat.lt_of_lt_of_le (h.s k hk).2 c.size⟩
  nds := fun x hx => by
    obtain ⟨b, h1, h2⟩ := h.nds x hx
    exact ⟨b, h1, h2.chg c fun k hk _ => hs k hk⟩
  no := h.no
  srt := h.srt
  ok := h.ok
  tab := by
    obtain ⟨base, v, t, t1, t2⟩ := h.tab
    exact ⟨base, v, Tb.chgT t t1 t2 c hT, t1, t2⟩
  cl := h.cl
  rt := h.rt
theorem Gr.grow (h : Gr w z S p m tb f ow cs L) (c : Grow w w') : Gr w' z S p m tb f ow cs L := h.chg c (fun _ h => h.elim) fun _ _ h => h
theorem Gr.tb_ (h : Gr w z S p m tb f ow cs L) : ∃ base v, Tb w base (some ⟨tb, 0, none⟩) v cs := by
  obtain ⟨base, v, t, _⟩ := h.tab
  exact ⟨base, v, t⟩
/-- Where the map leads. -/
theorem Gr.f_none (h : Gr w z S p m tb f ow cs L) (hn : nd L i = none) : f i = none := by
  cases hf : f i with
  | none => rfl
  | some b =>
    obtain ⟨x, hx, e⟩ := h.no i (by rw [hf]; simp)
    exact absurd e (nd_none hn x hx)
theorem Gr.f_some (h : Gr w z S p m tb f ow cs L) (hn : nd L i = some x) : ∃ b, f i = some b ∧ IsNd w S ow b x := by
  obtain ⟨hx, rfl⟩ := nd_some hn
  exact h.nds x hx
theorem Gr.f_iff (h : Gr w z S p m tb f ow cs L) : ∀ i, f i ≠ none ↔ i ∈ L.map Nd.id := by
  intro i
  constructor
  · intro hi
    obtain ⟨x, hx, e⟩ := h.no i hi
    exact List.mem_map.2 ⟨x, hx, e⟩
  · intro hi
    obtain ⟨x, hx, rfl⟩ := List.mem_map.1 hi
    obtain ⟨b, hb, _⟩ := h.nds x hx
    rw [hb]
    simp
theorem Gr.cell0 (h : Gr w z S p m tb f ow cs L) : w.cell? ⟨p, 0, none⟩ = some (.pointer (some ⟨tb, 0, none⟩)) := h.blk.cell 0
theorem Gr.cell1 (h : Gr w z S p m tb f ow cs L) : w.cell? ⟨p, 1, none⟩ = some (.map (some m)) := h.blk.cell 1
/-- The nodes anew, in the same blocks: one node's references, numbers, or end. -/
def updN (L : List Nd) (i : Int) (g : Nd → Nd) : List Nd := L.map fun x => if x.id = i then g x else x
theorem updN_ids (g : Nd → Nd) (hg : ∀ x, (g x).id = x.id) : (updN L i g).map Nd.id = L.map Nd.id := by
  unfold updN
  rw [List.map_map]
  refine List.map_congr_left fun x _ => ?_
  show Nd.id (if x.id = i then g x else x) = x.id
  split
  · exact hg x
  · rfl
theorem srt_of_ids {L' : List Nd} (h : Srt L) (e : L'.map Nd.id = L.map Nd.id) : Srt L' := by
  have h1 : (L.map Nd.id).Pairwise (· < ·) := List.pairwise_map.2 h
  rw [← e] at h1
  exact List.pairwise_map.1 h1
theorem nd_upd (g : Nd → Nd) (hg : ∀ x, (g x).id = x.id) (j : Int) : nd (updN L i g) j = if j = i then (nd L j).map g else nd L j := by
  unfold nd updN
  induction L with
  | nil => simp
  | cons a l ih =>
    simp only [List.map_cons, List.find?_cons]
    by_cases h1 : a.id = i
    · rw [if_pos h1, hg]
      by_cases h2 : a.id = j
      · have : j = i := by omega
        simp [h2, this]
      · have : ¬ j = i := by omega
        simp only [show (a.id == j) = false by simp [h2]]
        rw [ih]
    · rw [if_neg h1]
      by_cases h2 : a.id = j
      · have : ¬ j = i := by omega
        simp [h2, this]
      · simp only [show (a.id == j) = false by simp [h2]]
        rw [ih]
/-- One node of a graph changes, in its own blocks. -/
theorem Gr.upd (h : Gr w z S p m tb f ow cs L) (hn : nd L i = some x) {b : Nat} (hb : f i = some b) (g : Nd → Nd) (hg : ∀ x, (g x).id = x.id) (hok : (g x).Ok cs) (c : Chg T w w') (hT : ∀ k, T k → S k ∧ ow k = i) (hx : IsNd w' S ow b (g x)) :
    Gr w' z S p m tb f ow cs (updN L i g) := by
  obtain ⟨hxL, hxi⟩ := nd_some hn
  have hi1 : 1 ≤ i := by rw [← hxi]; exact (h.ok x hxL).id1
  have o0 : ∀ k, ow k = 0 → ¬ T k := fun k hk ht => by have := (hT k ht).2; omega
  refine ⟨h.blk.chg c (o0 _ h.om.2), h.map.chg c (o0 _ h.om.1), h.sp, h.sm, h.pm, h.om, fun k hk => ⟨(h.s k hk).1, Nat.lt_of_lt_of_le (h.s k hk).2 c.size⟩, ?_, ?_, srt_of_ids h.srt (updN_ids g hg), ?_, ?_, h.cl, h.rt⟩
  · intro y hy
    obtain ⟨y0, hy0, rfl⟩ := List.mem_map.1 hy
    by_cases e : y0.id = i
    · obtain rfl : y0 = x := srt_inj h.srt hy0 hxL (by omega)
      rw [if_pos e, hg]
      exact ⟨b, by rw [e]; exact hb, hx⟩
    · rw [if_neg e]
      obtain ⟨b', h1, h2⟩ := h.nds y0 hy0
      exact ⟨b', h1, h2.chg c fun k hk ho ht => e (by rw [← ho]; exact (hT k ht).2)⟩
  · intro j hj
    obtain ⟨y, hy, e⟩ := h.no j hj
    refine ⟨if y.id = i then g y else y, List.mem_map.2 ⟨y, hy, rfl⟩, ?_⟩
    split
    · rw [hg]; exact e
    · exact e
  · intro y hy
    obtain ⟨y0, hy0, rfl⟩ := List.mem_map.1 hy
    by_cases e : y0.id = i
    · obtain rfl : y0 = x := srt_inj h.srt hy0 hxL (by omega)
      rw [if_pos e]
      exact hok
    · rw [if_neg e]
      exact h.ok y0 hy0
  · obtain ⟨base, v, t, t1, t2⟩ := h.tab
    exact ⟨base, v, Tb.chgT t t1 t2 c fun k hk => (h.s k (hT k hk).1).1, t1, t2⟩
theorem Nod.cells {br bd : Nat} (h : Nod w S ow b br bd x) : w.cell? ⟨b, 0, none⟩ = some (.int .i64 x.id) ∧ w.cell? ⟨b, 1, none⟩ = some (.int .i64 x.c) ∧ w.cell? ⟨b, 2, none⟩ = some (.slice (some ⟨br, 0, none⟩) x.refs.length x.refs.length) ∧
    w.cell? ⟨b, 3, none⟩ = some (.slice (some ⟨bd, 0, none⟩) x.data.length x.data.length) ∧ w.cell? ⟨b, 4, none⟩ = some (.bool x.fin) ∧ w.cell? ⟨b, 5, none⟩ = some (.int .i64 x.wo) :=
  ⟨h.1.cell 0, h.1.cell 1, h.1.cell 2, h.1.cell 3, h.1.cell 4, h.1.cell 5⟩
theorem Nod.setRef {br bd : Nat} (h : Nod w S ow b br bd x) (k : Nat) (t : Int) : Nod (w.setCell ⟨br, k, none⟩ (.int .i64 t)) S ow b br bd { x with refs := x.refs.set k t } := by
  obtain ⟨h1, h2, h3, h4, r⟩ := h
  have n1 : b ≠ br := h1.ne_ h2 (by decide)
  refine ⟨?_, ?_, h3.far (fun e => h4 e.symm) _, h4, r⟩
  · have := h1.far (p := ⟨br, k, none⟩) n1 (.int .i64 t)
    simpa [Nd.wo] using this
  · show Blk _ br _ (ints (x.refs.set k t))
    rw [← ints_set]
    exact h2.set_ k _
theorem Nod.setNum {br bd : Nat} (h : Nod w S ow b br bd x) (k : Nat) (t : Int) : Nod (w.setCell ⟨bd, k, none⟩ (.int .i64 t)) S ow b br bd { x with data := x.data.set k t } := by
  obtain ⟨h1, h2, h3, h4, r⟩ := h
  have n1 : b ≠ bd := h1.ne_ h3 (by decide)
  refine ⟨?_, h2.far h4 _, ?_, h4, r⟩
  · have := h1.far (p := ⟨bd, k, none⟩) n1 (.int .i64 t)
    simpa [Nd.wo] using this
  · show Blk _ bd _ (ints (x.data.set k t))
    rw [← ints_set]
    exact h3.set_ k _
theorem Nod.done {br bd : Nat} (h : Nod w S ow b br bd x) : Nod (w.setCell ⟨b, 4, none⟩ (.bool false)) S ow b br bd { x with fin := false } := by
  obtain ⟨h1, h2, h3, h4, r⟩ := h
  have n1 : br ≠ b := fun e => h1.ne_ h2 (by decide) e.symm
  have n2 : bd ≠ b := fun e => h1.ne_ h3 (by decide) e.symm
  exact ⟨h1.set_ 4 _, h2.far n1 _, h3.far n2 _, h4, r⟩
theorem Nod.chgOf {br bd : Nat} (h : Nod w S ow b br bd x) (k : Nat) (u : Value) : (Chg (· = br) w (w.setCell ⟨br, k, none⟩ u)) ∧ (Chg (· = bd) w (w.setCell ⟨bd, k, none⟩ u)) ∧ (Chg (· = b) w (w.setCell ⟨b, k, none⟩ u)) :=
  ⟨(Chg.refl _ _).set1 _ _, (Chg.refl _ _).set1 _ _, (Chg.refl _ _).set1 _ _⟩
end
end Go.Proofs.Ytjofdamobnemcaa.L9
