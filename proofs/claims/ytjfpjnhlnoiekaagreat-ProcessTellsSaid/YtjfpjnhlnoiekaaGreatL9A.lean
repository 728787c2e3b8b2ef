/- Maps from identifiers to nodes: what stands in one, by a function; what a look, a store, a delete and a range do; sets of numbers as maps to nothing. Conditions: the numbers fit an int. -/
import Derived.Test.YtjfpjnhlnoiekaaGreatGrow
import Derived.Maps.RangeWalk
import Derived.Maps.OwnOps
import Derived.Maps.OwnSet
import Derived.Lib.SlKeysI
import Derived.Test.YtjfpjnhlnoiekaaGreatInts
import Derived.Test.YtjfpjnhlnoiekaaGreatOwn
import Derived.Test.YtjfpjnhlnoiekaaGreatL5A
import Derived.Deep.RegionHeld3
import Derived.Shelf.SlIterI.Nil
import Derived.Shelf.SortM.Plain
import Derived.Shelf.SortM.SortNone
import Derived.Ground.GgzProg
import Derived.Ground.SlgmProg
import Derived.Test.YtjfpjnhlnoiekaaGreatRows
import Derived.Lib.SliceRun
namespace Go.Proofs.YtjfpjnhlnoiekaaGreat.L9
open Go.ChangeShapes Go.WideShapes Go.ChangeAt Go.RowKit Go.Maps
set_option linter.unusedVariables false

theorem keyI : Keyed Tryz.prog 3 := int_keyed Tryz.underlying3
theorem zeroP (w : World) : (zeroValue 83).run Tryz.prog w = .ok (.pointer none) w := by kernel_rfl
theorem zeroU (w : World) : (zeroValue 122).run Tryz.prog w = .ok (.agg #[]) w := by kernel_rfl
/-- An element that points to a block reads as the block's number. -/
def ptrE : Value → Option (DataW Unit × List MemPlace)
  | .pointer (some ⟨b, 0, none⟩) => some (.lit (.int .i64 b), [])
  | _ => none
theorem ptrE_mk (b : Nat) : ptrE (.pointer (some ⟨b, 0, none⟩)) = some (.lit (.int .i64 b), []) := rfl
theorem ptrE_inv {v : Value} {y : DataW Unit × List MemPlace} (h : ptrE v = some y) : ∃ b : Nat, v = .pointer (some ⟨b, 0, none⟩) ∧ y = (.lit (.int .i64 b), []) := by
  unfold ptrE at h
  split at h
  · rename_i b
    injection h with h
    exact ⟨b, rfl, h.symm⟩
  · cases h
/-- The datum says just what f says. -/
def Says (D : DataW Unit) (f : Int → Option Nat) : Prop := ∀ x : Int, (∀ b, f x = some b → has D (.int .i64 x) = true ∧ ∀ z, D.atKey (.int .i64 x) z = .lit (.int .i64 b)) ∧ (f x = none → has D (.int .i64 x) = false)
/-- Block m is a map that leads each x with f x = some b to block b, and no other. -/
def Mn (w : World) (m : Nat) (f : Int → Option Nat) : Prop := ∃ D : DataW Unit, w.ownsMap Tryz.prog 3 ptrE m (size D) D ∧ Says D f
abbrev pt (o : Option Nat) : Value := .pointer (o.map fun b => ⟨b, 0, none⟩)
section
variable {w w' : World} {m : Nat} {f : Int → Option Nat} {C : Nat → Prop} {H : Type} {R : Value → Option (DataW H × List MemPlace)}
theorem owns_size {n : Nat} {D : DataW H} (h : w.ownsMap Tryz.prog 3 R m n D) : w.ownsMap Tryz.prog 3 R m (size D) D := by
  obtain ⟨es, clock, hb, F, hs, rfl⟩ := h
  refine ⟨es, clock, hb, F, ?_, rfl⟩
  simp [Maps.size, length_sorted]
theorem owns_chg {n : Nat} {D : DataW H} (h : w.ownsMap Tryz.prog 3 R m n D) (c : Chg C w w') (hb : ¬ C m) : w'.ownsMap Tryz.prog 3 R m n D := by
  have hlt := h.lt
  obtain ⟨es, clock, e1, r⟩ := h
  exact ⟨es, clock, (c.block m hlt hb).trans e1, r⟩
theorem Mn.made (w : World) : Mn (w.alloc (.map #[] 0)) w.heap.size fun _ => none :=
  ⟨.map [], owns_size (World.ownsMap_made _ _ _ _), fun x => ⟨fun b h => (by cases h), fun _ => rfl⟩⟩
theorem Mn.lt (h : Mn w m f) : m < w.heap.size := by obtain ⟨D, h1, _⟩ := h; exact h1.lt
theorem Mn.chg (h : Mn w m f) (c : Chg C w w') (hb : ¬ C m) : Mn w' m f := by
  obtain ⟨D, h1, h2⟩ := h
  exact ⟨D, owns_chg h1 c hb, h2⟩
theorem Says.look {D : DataW Unit} {n : Nat} (ho : w.ownsMap Tryz.prog 3 ptrE m n D) (hk : Says D f) {x : Int} (hx : (Lit.int .i64 x).wf = true) :
    (Instr.lookup 84 (.map (some m)) (.int .i64 x) false).run Tryz.prog w = .ok (pt (f x)) w := by
  have hkey := keyOf_int_mk Tryz.underlying3 hx
  obtain ⟨es, clock, hb, F, hs, rfl⟩ := ho
  rcases Maps.fit_look (w := w) (t := 84) false keyI Tryz.underlying84 (zeroP w) hb F hkey with ⟨hrun, _, hat⟩ | ⟨e0, y, _, _, hrun, hRv, hat, _⟩
  · rw [hrun]
    cases hf : f x with
    | none => rfl
    | some b =>
      have h1 := ((hk x).1 b hf).2 (.agg [])
      rw [hat] at h1
      cases h1
  · rw [hrun]
    obtain ⟨b', hv, hy⟩ := ptrE_inv hRv
    cases hf : f x with
    | none =>
      have h1 := atKey_of_not_has ((hk x).2 hf) (.agg [])
      rw [hat, hy] at h1
      exact absurd h1 (by simp)
    | some b =>
      have h1 := ((hk x).1 b hf).2 (.agg [])
      rw [hat, hy] at h1
      have h2 : b' = b := by
        simp at h1
        exact Int.ofNat.inj h1
      rw [h2] at hv
      simp [hv, pt]
theorem Mn.look (h : Mn w m f) {x : Int} (hx : (Lit.int .i64 x).wf = true) :
    (Instr.lookup 84 (.map (some m)) (.int .i64 x) false).run Tryz.prog w = .ok (pt (f x)) w := by
  obtain ⟨D, ho, hk⟩ := h
  exact hk.look ho hx
theorem keyL (x : Int) : WideAt.IsKeyLit (.int .i64 x) := trivial
theorem Says.put {D : DataW Unit} (hk : Says D f) (ht : IsMap D) (x : Int) (b : Nat) : Says (D.put (.int .i64 x) (.lit (.int .i64 b))) fun y => if y = x then some b else f y := by
  intro y
  by_cases hy : y = x
  · subst hy
    simp only [if_pos]
    refine ⟨fun b' hb => ?_, fun h => by cases h⟩
    injection hb with hb
    subst hb
    exact ⟨has_put_same ht (keyL _) _, fun z => atKey_put_same ht (keyL _) _ z⟩
  · have hne : (Lit.int .i64 y) ≠ .int .i64 x := fun e => hy (by injection e)
    simp only [if_neg hy]
    rw [has_put_other hne]
    exact ⟨fun b' hb => ⟨((hk y).1 b' hb).1, fun z => by rw [atKey_put_other hne]; exact ((hk y).1 b' hb).2 z⟩, (hk y).2⟩
theorem Says.del {D : DataW Unit} (hk : Says D f) (x : Int) : Says (D.del (.int .i64 x)) fun y => if y = x then none else f y := by
  intro y
  by_cases hy : y = x
  · subst hy
    simp only [if_pos]
    exact ⟨fun b' hb => (by cases hb), fun _ => has_del_same⟩
  · have hne : (Lit.int .i64 y) ≠ .int .i64 x := fun e => hy (by injection e)
    simp only [if_neg hy]
    rw [has_del_other hne]
    exact ⟨fun b' hb => ⟨((hk y).1 b' hb).1, fun z => by rw [atKey_del_other hne]; exact ((hk y).1 b' hb).2 z⟩, (hk y).2⟩
theorem Mn.size_lt (h : Mn w m f) {ids : List Int} (hid : ∀ x, f x ≠ none ↔ x ∈ ids) (hn : ids.Nodup) {D : DataW Unit} (ho : w.ownsMap Tryz.prog 3 ptrE m (size D) D) (hk : Says D f) : ids.Perm (intKeys D) := by
  obtain ⟨es, hD, hpw, _⟩ := ho.entries keyI
  obtain ⟨es', hD', hko⟩ := ho.keysOf
  obtain rfl : es = es' := by rw [hD] at hD'; simpa using hD'
  subst hD
  refine perm_intKeys hpw (fun p hp => by obtain ⟨v, hv⟩ := hko p hp; obtain ⟨x, _, hx, _⟩ := Maps.keyOf_i64 Tryz.underlying3 hv; exact ⟨x, hx⟩) hn fun x => ?_
  rw [← hid x]
  constructor
  · intro hx
    cases hf : f x with
    | none => exact absurd hf hx
    | some b => exact ((hk x).1 b hf).1
  · intro hx hf
    rw [(hk x).2 hf] at hx
    cases hx
theorem keys_size (D : DataW Unit) : (intKeys D).length = size D := by cases D <;> simp [intKeys, size]
theorem Mn.put (h : Mn w m f) {ids : List Int} (hid : ∀ x, f x ≠ none ↔ x ∈ ids) (hn : ids.Nodup) (hl : ids.length < maxLen) {x : Int} (hx : (Lit.int .i64 x).wf = true) (b : Nat) :
    ∃ w', (Instr.mapUpdate 84 (.map (some m)) (.int .i64 x) (.pointer (some ⟨b, 0, none⟩))).run Tryz.prog w = .ok () w' ∧ Mn w' m (fun y => if y = x then some b else f y) ∧ Chg (· = m) w w' := by
  obtain ⟨D, ho, hk⟩ := h
  have hp := Mn.size_lt ⟨D, ho, hk⟩ hid hn ho hk
  have hsz : size D < maxLen := by rw [← keys_size, ← hp.length_eq]; exact hl
  obtain ⟨w', hrun, ho', hg⟩ := ho.update keyI Tryz.underlying84 hsz (keyOf_int_mk Tryz.underlying3 hx) (ptrE_mk b)
  exact ⟨w', hrun, ⟨_, owns_size ho', hk.put ho.isMap x b⟩, hg.os, hg.tape, hg.output, hg.size, fun i hi hne => hg.block i hi (fun e => hne (by injection e))⟩
end

/-- Sets of numbers. -/
def SaysU (D : DataW Unit) (p : Int → Bool) : Prop := ∀ x : Int, has D (.int .i64 x) = p x
def Su (w : World) (m n : Nat) (p : Int → Bool) : Prop := ∃ D : DataW Unit, w.ownsMap Tryz.prog 3 unitElem m n D ∧ SaysU D p
section
variable {w w' : World} {m n : Nat} {p : Int → Bool} {C : Nat → Prop}
theorem Su.made (w : World) : Su (w.alloc (.map #[] 0)) w.heap.size 0 fun _ => false := ⟨_, World.ownsMap_made _ _ _ _, fun x => rfl⟩
theorem Su.lt (h : Su w m n p) : m < w.heap.size := by obtain ⟨D, h1, _⟩ := h; exact h1.lt
theorem Su.chg (h : Su w m n p) (c : Chg C w w') (hb : ¬ C m) : Su w' m n p := by
  obtain ⟨D, h1, h2⟩ := h
  exact ⟨D, owns_chg h1 c hb, h2⟩
theorem Su.look (h : Su w m n p) {x : Int} (hx : (Lit.int .i64 x).wf = true) :
    (Instr.lookup 121 (.map (some m)) (.int .i64 x) true).run Tryz.prog w = .ok (.tuple #[.agg #[], .bool (p x)]) w := by
  have hkey := keyOf_int_mk Tryz.underlying3 hx
  obtain ⟨D, ⟨es, clock, hb, F, hs, rfl⟩, hk⟩ := h
  rcases Maps.fit_look (w := w) (t := 121) true keyI Tryz.underlying121 (zeroU w) hb F hkey with ⟨hrun, _, hat⟩ | ⟨e0, y, _, _, hrun, hRv, hat, _⟩
  · rw [hrun, ← hk x, has_false_of_atKey hat]
    rfl
  · rw [hrun, ← hk x, has_true_of_atKey hat, (unitElem_inv hRv).1]
    rfl
theorem Su.put (h : Su w m n p) {x : Int} (hx : (Lit.int .i64 x).wf = true) (hn : n < maxLen) :
    ∃ w', (Instr.mapUpdate 121 (.map (some m)) (.int .i64 x) (.agg #[])).run Tryz.prog w = .ok () w' ∧ Su w' m (n + 1) (fun y => decide (y = x) || p y) ∧ Chg (· = m) w w' := by
  obtain ⟨D, ho, hk⟩ := h
  obtain ⟨w', hrun, ho', hg⟩ := ho.update keyI Tryz.underlying121 hn (keyOf_int_mk Tryz.underlying3 hx) unitElem_mk
  refine ⟨w', hrun, ⟨_, ho', fun y => ?_⟩, hg.os, hg.tape, hg.output, hg.size, fun i hi hne => hg.block i hi (fun e => hne (by injection e))⟩
  by_cases hy : y = x
  · subst hy
    rw [has_put_same ho.isMap (keyL _)]
    simp
  · rw [has_put_other (fun e => hy (by injection e)), hk y]
    simp [hy]
end
end Go.Proofs.YtjfpjnhlnoiekaaGreat.L9
/- Graphs: the nodes as a list, what a graph's memory is, and the table of its classes. Conditions: the classes can be; there are at most 100. -/
namespace Go.Proofs.YtjfpjnhlnoiekaaGreat.L9
open Go.ChangeShapes Go.WideShapes Go.ChangeAt Go.RowKit Go.Maps
open Go.Proofs.YtjfpjnhlnoiekaaGreat.L5 (Cl clV rtB Tb clAt shX shR shD woV hoB IsCls newX isRf)
set_option linter.unusedVariables false

/-- A node. -/
structure Nd where
  id : Int
  c : Int
  refs : List Int
  data : List Int
  fin : Bool
def Nd.wo (x : Nd) : Nat := 2 + x.refs.length + x.data.length
/-- A number fits an int. -/
def In64 (x : Int) : Prop := (Lit.int .i64 x).wf = true
/-- A node that can be. -/
structure Nd.Ok (cs : List Cl) (x : Nd) : Prop where
  id1 : 1 ≤ x.id
  id2 : In64 x.id
  rl : x.refs.length ≤ 30
  dl : x.data.length ≤ 30
  rw_ : ∀ r ∈ x.refs, In64 r
  cl : ∃ c, clAt cs x.c = some c ∧ (isRf c.k = true → 0 < x.refs.length)
/-- Node x lies in block b: its references, its numbers in blocks of their own. -/
def Nod (w : World) (S : Nat → Prop) (ow : Nat → Int) (b br bd : Nat) (x : Nd) : Prop :=
  Blk w b 87 [.int .i64 x.id, .int .i64 x.c, .slice (some ⟨br, 0, none⟩) x.refs.length x.refs.length, .slice (some ⟨bd, 0, none⟩) x.data.length x.data.length, .bool x.fin, .int .i64 x.wo] ∧
    Blk w br 3 (ints x.refs) ∧ Blk w bd 3 (ints x.data) ∧ br ≠ bd ∧ (ow b = x.id ∧ ow br = x.id ∧ ow bd = x.id) ∧ S b ∧ S br ∧ S bd
def IsNd (w : World) (S : Nat → Prop) (ow : Nat → Int) (b : Nat) (x : Nd) : Prop := ∃ br bd, Nod w S ow b br bd x
/-- The names rise. -/
def Srt (L : List Nd) : Prop := L.Pairwise (fun a b => a.id < b.id)
/-- A graph at block p: map m, by f; whose node a block belongs to, by ow; its blocks, S; its table of classes lies ahead of z. -/
structure Gr (w : World) (z : Nat) (S : Nat → Prop) (p m tb : Nat) (f : Int → Option Nat) (ow : Nat → Int) (cs : List Cl) (L : List Nd) : Prop where
  blk : Blk w p 102 [.pointer (some ⟨tb, 0, none⟩), .map (some m)]
  map : Mn w m f
  sp : S p
  sm : S m
  pm : p ≠ m
  om : ow m = 0 ∧ ow p = 0
  s : ∀ k, S k → z ≤ k ∧ k < w.heap.size
  nds : ∀ x ∈ L, ∃ b, f x.id = some b ∧ IsNd w S ow b x
  no : ∀ i, f i ≠ none → ∃ x ∈ L, x.id = i
  srt : Srt L
  ok : ∀ x ∈ L, x.Ok cs
  tab : ∃ base v, Tb w base (some ⟨tb, 0, none⟩) v cs ∧ tb < z ∧ ∀ k, v.ownBlock = some k → k < z
  cl : cs.length ≤ 100
  rt : cs.all Cl.rt = true
/-- The node with a name. -/
def nd (L : List Nd) (i : Int) : Option Nd := L.find? fun x => x.id == i

section
variable {w w' : World} {z p m tb : Nat} {S T : Nat → Prop} {f : Int → Option Nat} {ow : Nat → Int} {cs : List Cl} {L : List Nd} {x : Nd} {b : Nat} {i : Int}
theorem nd_some (h : nd L i = some x) : x ∈ L ∧ x.id = i := by
  unfold nd at h
  exact ⟨List.mem_of_find?_eq_some h, by simpa using List.find?_some h⟩
theorem nd_none (h : nd L i = none) : ∀ x ∈ L, x.id ≠ i := by
  unfold nd at h
  simpa using h
theorem srt_inj (h : Srt L) {x y : Nd} (hx : x ∈ L) (hy : y ∈ L) (e : x.id = y.id) : x = y := by
  unfold Srt at h
  induction L with
  | nil => cases hx
  | cons a l ih =>
    obtain ⟨h1, h2⟩ := List.pairwise_cons.1 h
    rcases List.mem_cons.1 hx with rfl | hx'
    · rcases List.mem_cons.1 hy with rfl | hy'
      · rfl
      · have := h1 y hy'; omega
    · rcases List.mem_cons.1 hy with rfl | hy'
      · have := h1 x hx'; omega
      · exact ih h2 hx' hy'
theorem nd_mem (h : Srt L) (hx : x ∈ L) : nd L x.id = some x := by
  cases hf : nd L x.id with
  | none => exact absurd rfl (nd_none hf x hx)
  | some y =>
    obtain ⟨hy, e⟩ := nd_some hf
    rw [srt_inj h hy hx e]
theorem srt_nodup (h : Srt L) : (L.map Nd.id).Nodup := by
  unfold Srt at h
  rw [List.Nodup, List.pairwise_map]
  exact h.imp fun h => by omega
theorem IsNd.chg (h : IsNd w S ow b x) (c : Chg T w w') (hs : ∀ k, S k → ow k = x.id → ¬ T k) : IsNd w' S ow b x := by
  obtain ⟨br, bd, h1, h2, h3, h4, ⟨o1, o2, o3⟩, s1, s2, s3⟩ := h
  exact ⟨br, bd, h1.chg c (hs _ s1 o1), h2.chg c (hs _ s2 o2), h3.chg c (hs _ s3 o3), h4, ⟨o1, o2, o3⟩, s1, s2, s3⟩
theorem IsNd.wide {S' : Nat → Prop} {ow' : Nat → Int} (h : IsNd w S ow b x) (hs : ∀ k, S k → S' k) (ho : ∀ k, S k → ow' k = ow k) : IsNd w S' ow' b x := by
  obtain ⟨br, bd, h1, h2, h3, h4, ⟨o1, o2, o3⟩, s1, s2, s3⟩ := h
  exact ⟨br, bd, h1, h2, h3, h4, ⟨by rw [ho _ s1, o1], by rw [ho _ s2, o2], by rw [ho _ s3, o3]⟩, hs _ s1, hs _ s2, hs _ s3⟩
theorem Tb.chgT {base : Nat} {v : Value} (h : Tb w base (some ⟨tb, 0, none⟩) v cs) (h1 : tb < z) (h2 : ∀ k, v.ownBlock = some k → k < z) (c : Chg T w w') (hT : ∀ k, T k → z ≤ k) : Tb w' base (some ⟨tb, 0, none⟩) v cs := by
  obtain ⟨t1, t2⟩ := h
  refine ⟨own_chg t1 c (fun k hk hS => ?_), ?_⟩
  · have := hT k hS; have := h2 k hk; omega
  · rcases t2 with t2 | ⟨k, e, hb, hk⟩
    · exact .inl t2
    · refine .inr ⟨k, e, hb, hk.chg c (fun hS => ?_)⟩
      injection e with e
      injection e with e
      have := hT k hS
      omega
/-- What changes elsewhere. -/
theorem Gr.chg (h : Gr w z S p m tb f ow cs L) (c : Chg T w w') (hT : ∀ k, T k → z ≤ k) (hs : ∀ k, S k → ¬ T k) : Gr w' z S p m tb f ow cs L where
  blk := h.blk.chg c (hs _ h.sp)
  map := h.map.chg c (hs _ h.sm)
  sp := h.sp
  sm := h.sm
  pm := h.pm
  om := h.om
  s := fun k hk => ⟨(h.s k hk).1, Nat.lt_of_lt_of_le (h.s k hk).2 c.size⟩
  nds := fun x hx => by
    obtain ⟨b, h1, h2⟩ := h.nds x hx
    exact ⟨b, h1, h2.chg c fun k hk _ => hs k hk⟩
  no := h.no
  srt := h.srt
  ok := h.ok
  tab := by
    obtain ⟨base, v, t, t1, t2⟩ := h.tab
    exact ⟨base, v, Tb.chgT t t1 t2 c hT, t1, t2⟩
  cl := h.cl
  rt := h.rt
theorem Gr.grow (h : Gr w z S p m tb f ow cs L) (c : Grow w w') : Gr w' z S p m tb f ow cs L := h.chg c (fun _ h => h.elim) fun _ _ h => h
theorem Gr.tb_ (h : Gr w z S p m tb f ow cs L) : ∃ base v, Tb w base (some ⟨tb, 0, none⟩) v cs := by
  obtain ⟨base, v, t, _⟩ := h.tab
  exact ⟨base, v, t⟩
/-- Where the map leads. -/
theorem Gr.f_none (h : Gr w z S p m tb f ow cs L) (hn : nd L i = none) : f i = none := by
  cases hf : f i with
  | none => rfl
  | some b =>
    obtain ⟨x, hx, e⟩ := h.no i (by rw [hf]; simp)
    exact absurd e (nd_none hn x hx)
theorem Gr.f_some (h : Gr w z S p m tb f ow cs L) (hn : nd L i = some x) : ∃ b, f i = some b ∧ IsNd w S ow b x := by
  obtain ⟨hx, rfl⟩ := nd_some hn
  exact h.nds x hx
theorem Gr.f_iff (h : Gr w z S p m tb f ow cs L) : ∀ i, f i ≠ none ↔ i ∈ L.map Nd.id := by
  intro i
  constructor
  · intro hi
    obtain ⟨x, hx, e⟩ := h.no i hi
    exact List.mem_map.2 ⟨x, hx, e⟩
  · intro hi
    obtain ⟨x, hx, rfl⟩ := List.mem_map.1 hi
    obtain ⟨b, hb, _⟩ := h.nds x hx
    rw [hb]
    simp
theorem Gr.cell0 (h : Gr w z S p m tb f ow cs L) : w.cell? ⟨p, 0, none⟩ = some (.pointer (some ⟨tb, 0, none⟩)) := h.blk.cell 0
theorem Gr.cell1 (h : Gr w z S p m tb f ow cs L) : w.cell? ⟨p, 1, none⟩ = some (.map (some m)) := h.blk.cell 1
/-- The nodes anew, in the same blocks: one node's references, numbers, or end. -/
def updN (L : List Nd) (i : Int) (g : Nd → Nd) : List Nd := L.map fun x => if x.id = i then g x else x
theorem updN_ids (g : Nd → Nd) (hg : ∀ x, (g x).id = x.id) : (updN L i g).map Nd.id = L.map Nd.id := by
  unfold updN
  rw [List.map_map]
  refine List.map_congr_left fun x _ => ?_
  show Nd.id (if x.id = i then g x else x) = x.id
  split
  · exact hg x
  · rfl
theorem srt_of_ids {L' : List Nd} (h : Srt L) (e : L'.map Nd.id = L.map Nd.id) : Srt L' := by
  have h1 : (L.map Nd.id).Pairwise (· < ·) := List.pairwise_map.2 h
  rw [← e] at h1
  exact List.pairwise_map.1 h1
theorem nd_upd (g : Nd → Nd) (hg : ∀ x, (g x).id = x.id) (j : Int) : nd (updN L i g) j = if j = i then (nd L j).map g else nd L j := by
  unfold nd updN
  induction L with
  | nil => simp
  | cons a l ih =>
    simp only [List.map_cons, List.find?_cons]
    by_cases h1 : a.id = i
    · rw [if_pos h1, hg]
      by_cases h2 : a.id = j
      · have : j = i := by omega
        simp [h2, this]
      · have : ¬ j = i := by omega
        simp only [show (a.id == j) = false by simp [h2]]
        rw [ih]
    · rw [if_neg h1]
      by_cases h2 : a.id = j
      · have : ¬ j = i := by omega
        simp [h2, this]
      · simp only [show (a.id == j) = false by simp [h2]]
        rw [ih]
/-- One node of a graph changes, in its own blocks. -/
theorem Gr.upd (h : Gr w z S p m tb f ow cs L) (hn : nd L i = some x) {b : Nat} (hb : f i = some b) (g : Nd → Nd) (hg : ∀ x, (g x).id = x.id) (hok : (g x).Ok cs) (c : Chg T w w') (hT : ∀ k, T k → S k ∧ ow k = i) (hx : IsNd w' S ow b (g x)) :
    Gr w' z S p m tb f ow cs (updN L i g) := by
  obtain ⟨hxL, hxi⟩ := nd_some hn
  have hi1 : 1 ≤ i := by rw [← hxi]; exact (h.ok x hxL).id1
  have o0 : ∀ k, ow k = 0 → ¬ T k := fun k hk ht => by have := (hT k ht).2; omega
  refine ⟨h.blk.chg c (o0 _ h.om.2), h.map.chg c (o0 _ h.om.1), h.sp, h.sm, h.pm, h.om, fun k hk => ⟨(h.s k hk).1, Nat.lt_of_lt_of_le (h.s k hk).2 c.size⟩, ?_, ?_, srt_of_ids h.srt (updN_ids g hg), ?_, ?_, h.cl, h.rt⟩
  · intro y hy
    obtain ⟨y0, hy0, rfl⟩ := List.mem_map.1 hy
    by_cases e : y0.id = i
    · obtain rfl : y0 = x := srt_inj h.srt hy0 hxL (by omega)
      rw [if_pos e, hg]
      exact ⟨b, by rw [e]; exact hb, hx⟩
    · rw [if_neg e]
      obtain ⟨b', h1, h2⟩ := h.nds y0 hy0
      exact ⟨b', h1, h2.chg c fun k hk ho ht => e (by rw [← ho]; exact (hT k ht).2)⟩
  · intro j hj
    obtain ⟨y, hy, e⟩ := h.no j hj
    refine ⟨if y.id = i then g y else y, List.mem_map.2 ⟨y, hy, rfl⟩, ?_⟩
    split
    · rw [hg]; exact e
    · exact e
  · intro y hy
    obtain ⟨y0, hy0, rfl⟩ := List.mem_map.1 hy
    by_cases e : y0.id = i
    · obtain rfl : y0 = x := srt_inj h.srt hy0 hxL (by omega)
      rw [if_pos e]
      exact hok
    · rw [if_neg e]
      exact h.ok y0 hy0
  · obtain ⟨base, v, t, t1, t2⟩ := h.tab
    exact ⟨base, v, Tb.chgT t t1 t2 c fun k hk => (h.s k (hT k hk).1).1, t1, t2⟩
theorem Nod.cells {br bd : Nat} (h : Nod w S ow b br bd x) : w.cell? ⟨b, 0, none⟩ = some (.int .i64 x.id) ∧ w.cell? ⟨b, 1, none⟩ = some (.int .i64 x.c) ∧ w.cell? ⟨b, 2, none⟩ = some (.slice (some ⟨br, 0, none⟩) x.refs.length x.refs.length) ∧
    w.cell? ⟨b, 3, none⟩ = some (.slice (some ⟨bd, 0, none⟩) x.data.length x.data.length) ∧ w.cell? ⟨b, 4, none⟩ = some (.bool x.fin) ∧ w.cell? ⟨b, 5, none⟩ = some (.int .i64 x.wo) :=
  ⟨h.1.cell 0, h.1.cell 1, h.1.cell 2, h.1.cell 3, h.1.cell 4, h.1.cell 5⟩
theorem Nod.setRef {br bd : Nat} (h : Nod w S ow b br bd x) (k : Nat) (t : Int) : Nod (w.setCell ⟨br, k, none⟩ (.int .i64 t)) S ow b br bd { x with refs := x.refs.set k t } := by
  obtain ⟨h1, h2, h3, h4, r⟩ := h
  have n1 : b ≠ br := h1.ne_ h2 (by decide)
  refine ⟨?_, ?_, h3.far (fun e => h4 e.symm) _, h4, r⟩
  · have := h1.far (p := ⟨br, k, none⟩) n1 (.int .i64 t)
    simpa [Nd.wo] using this
  · show Blk _ br _ (ints (x.refs.set k t))
    rw [← ints_set]
    exact h2.set_ k _
theorem Nod.setNum {br bd : Nat} (h : Nod w S ow b br bd x) (k : Nat) (t : Int) : Nod (w.setCell ⟨bd, k, none⟩ (.int .i64 t)) S ow b br bd { x with data := x.data.set k t } := by
  obtain ⟨h1, h2, h3, h4, r⟩ := h
  have n1 : b ≠ bd := h1.ne_ h3 (by decide)
  refine ⟨?_, h2.far h4 _, ?_, h4, r⟩
  · have := h1.far (p := ⟨bd, k, none⟩) n1 (.int .i64 t)
    simpa [Nd.wo] using this
  · show Blk _ bd _ (ints (x.data.set k t))
    rw [← ints_set]
    exact h3.set_ k _
theorem Nod.done {br bd : Nat} (h : Nod w S ow b br bd x) : Nod (w.setCell ⟨b, 4, none⟩ (.bool false)) S ow b br bd { x with fin := false } := by
  obtain ⟨h1, h2, h3, h4, r⟩ := h
  have n1 : br ≠ b := fun e => h1.ne_ h2 (by decide) e.symm
  have n2 : bd ≠ b := fun e => h1.ne_ h3 (by decide) e.symm
  exact ⟨h1.set_ 4 _, h2.far n1 _, h3.far n2 _, h4, r⟩
theorem Nod.chgOf {br bd : Nat} (h : Nod w S ow b br bd x) (k : Nat) (u : Value) : (Chg (· = br) w (w.setCell ⟨br, k, none⟩ u)) ∧ (Chg (· = bd) w (w.setCell ⟨bd, k, none⟩ u)) ∧ (Chg (· = b) w (w.setCell ⟨b, k, none⟩ u)) :=
  ⟨(Chg.refl _ _).set1 _ _, (Chg.refl _ _).set1 _ _, (Chg.refl _ _).set1 _ _⟩
end
end Go.Proofs.YtjfpjnhlnoiekaaGreat.L9
/- Graphs: New, SetRef, SetNum and Done: what they answer and do, whatever the argument. Conditions: the numbers fit an int. -/
namespace Go.Proofs.YtjfpjnhlnoiekaaGreat.L9
open Go.ChangeShapes Go.WideShapes Go.ChangeAt Go.RowKit Go.Maps
open Go.Proofs.YtjfpjnhlnoiekaaGreat.L5 (Cl clV rtB Tb clAt shX shR shD woV hoB IsCls newX isRf)
set_option linter.unusedVariables false

abbrev ptr (p : Nat) : Value := .pointer (some ⟨p, 0, none⟩)
section
variable {w : World} {z p m tb : Nat} {S : Nat → Prop} {f : Int → Option Nat} {ow : Nat → Int} {cs : List Cl} {L : List Nd} {x : Nd} {i : Int}
theorem all_g (h : Gr w z S p m tb f ow cs L) : Calls Tryz.prog 36 #[ptr p] w fun e w' => e = .returned (.map (some m)) ∧ w = w' := by
  have c1 := h.cell1
  clear h
  go_enter Tryz.func36, Tryz.ntmps36
  go_wp2
  go_ret
  exact ⟨rfl, rfl⟩
theorem all_nil (w : World) : Calls Tryz.prog 36 #[.pointer none] w fun e w' => e = .returned (.map none) ∧ w = w' := by
  go_enter Tryz.func36, Tryz.ntmps36
  go_wp2
  go_ret
  exact ⟨rfl, rfl⟩
theorem look_none (h : Gr w z S p m tb f ow cs L) (hi : In64 i) (hn : nd L i = none) : (Instr.lookup 84 (.map (some m)) (.int .i64 i) false).run Tryz.prog w = .ok (.pointer none) w := by
  have := h.map.look hi
  rwa [h.f_none hn] at this
theorem look_some (h : Gr w z S p m tb f ow cs L) (hi : In64 i) (hn : nd L i = some x) : ∃ b br bd, f i = some b ∧ (Instr.lookup 84 (.map (some m)) (.int .i64 i) false).run Tryz.prog w = .ok (ptr b) w ∧ Nod w S ow b br bd x := by
  have hl := h.map.look hi
  obtain ⟨b, hb, br, bd, hx⟩ := h.f_some hn
  rw [hb] at hl
  exact ⟨b, br, bd, hb, hl, hx⟩

/-- New. -/
theorem new_g {base : Nat} {v : Value} (ht : Tb w base (some ⟨tb, 0, none⟩) v cs) (hz : tb < z ∧ ∀ k, v.ownBlock = some k → k < z) (hzw : z ≤ w.heap.size) (hl : cs.length ≤ 100) (hr : cs.all Cl.rt = true) :
    Calls Tryz.prog 19 #[ptr tb] w fun e w' => e = .returned (ptr (w.heap.size + 1)) ∧ Grow w w' ∧
      Gr w' z (fun k => k = w.heap.size ∨ k = w.heap.size + 1) (w.heap.size + 1) w.heap.size tb (fun _ => none) (fun _ => 0) cs [] := by
  have HT := hide ht
  have hmm := @run_makeMap Tryz.prog
  clear ht
  go_enter Tryz.func19, Tryz.ntmps19
  go_wp2
  go_ret
  have hsz : (w.alloc (.map #[] 0)).heap.size = w.heap.size + 1 := by simp
  have hg : Grow w ((w.alloc (.map #[] 0)).alloc (.cells #[ptr tb, .map (some w.heap.size)] 102)) := (Grow.box _ _).alloc _
  have hb := Blk.new (w.alloc (.map #[] 0)) 102 [ptr tb, .map (some w.heap.size)]
  rw [hsz] at hb
  refine ⟨rfl, hg, hb, (Mn.made w).chg (Grow.box _ _) id, .inr rfl, .inl rfl, by omega, ⟨rfl, rfl⟩, ?_, by simp, fun i hi => absurd rfl hi, List.Pairwise.nil, by simp, ⟨base, v, HT.out.grow hg, hz⟩, hl, hr⟩
  intro k hk
  have : ((w.alloc (.map #[] 0)).alloc (.cells #[ptr tb, .map (some w.heap.size)] 102)).heap.size = w.heap.size + 1 + 1 := by simp
  rw [this]
  omega

/-- SetRef, SetNum, Done: the error's number; the nodes behind it. -/
def srX (L : List Nd) (i k t : Int) : Int := match nd L i with
  | none => 7
  | some x => if k < 0 ∨ (x.refs.length : Int) ≤ k then 1 else if t ≠ 0 ∧ nd L t = none then 7 else 0
def srL (L : List Nd) (i k t : Int) : List Nd := if srX L i k t = 0 then updN L i fun x => { x with refs := x.refs.set k.toNat t } else L
def snX (L : List Nd) (i k : Int) : Int := match nd L i with
  | none => 7
  | some x => if k < 0 ∨ (x.data.length : Int) ≤ k then 1 else 0
def snL (L : List Nd) (i k t : Int) : List Nd := if snX L i k = 0 then updN L i fun x => { x with data := x.data.set k.toNat t } else L
def dnX (L : List Nd) (i : Int) : Int := match nd L i with
  | none => 7
  | some x => 0
def dnL (L : List Nd) (i : Int) : List Nd := if dnX L i = 0 then updN L i fun x => { x with fin := false } else L

theorem srX_ok (hn : nd L i = some x) {n : Nat} {t : Int} (hk : ¬ ((n : Int) < 0 ∨ (x.refs.length : Int) ≤ n)) (h0 : ¬ (t ≠ 0 ∧ nd L t = none)) : srX L i n t = 0 ∧ srL L i n t = updN L i fun x => { x with refs := x.refs.set n t } := by
  have e : srX L i n t = 0 := by
    simp only [srX, hn]
    rw [if_neg hk, if_neg h0]
  refine ⟨e, ?_⟩
  unfold srL
  rw [if_pos e]
  rfl
theorem snX_ok (hn : nd L i = some x) {n : Nat} {t : Int} (hk : ¬ ((n : Int) < 0 ∨ (x.data.length : Int) ≤ n)) : snX L i n = 0 ∧ snL L i n t = updN L i fun x => { x with data := x.data.set n t } := by
  have e : snX L i n = 0 := by
    simp only [snX, hn]
    rw [if_neg hk]
  refine ⟨e, ?_⟩
  unfold snL
  rw [if_pos e]
  rfl
theorem Nd.Ok.setRef (h : Nd.Ok cs x) (k : Nat) {t : Int} (ht : In64 t) : Nd.Ok cs { x with refs := x.refs.set k t } :=
  ⟨h.id1, h.id2, by simpa using h.rl, h.dl, fun r hr => by
    rcases List.mem_or_eq_of_mem_set hr with h1 | h1
    · exact h.rw_ r h1
    · rw [h1]; exact ht, by simpa using h.cl⟩
theorem Nd.Ok.setNum (h : Nd.Ok cs x) (k : Nat) (t : Int) : Nd.Ok cs { x with data := x.data.set k t } :=
  ⟨h.id1, h.id2, h.rl, by simpa using h.dl, h.rw_, h.cl⟩
theorem Nd.Ok.done (h : Nd.Ok cs x) : Nd.Ok cs { x with fin := false } := ⟨h.id1, h.id2, h.rl, h.dl, h.rw_, h.cl⟩
theorem Gr.ofNod {b br bd k0 : Nat} {u : Value} {a : Nat} (h : Gr w z S p m tb f ow cs L) (hn : nd L i = some x) (hb : f i = some b) (hx : Nod w S ow b br bd x) (ha : a = b ∨ a = br ∨ a = bd) (g : Nd → Nd) (hg : ∀ x, (g x).id = x.id) (hok : (g x).Ok cs)
    (hx' : Nod (w.setCell ⟨a, k0, none⟩ u) S ow b br bd (g x)) : Gr (w.setCell ⟨a, k0, none⟩ u) z S p m tb f ow cs (updN L i g) ∧ Chg S w (w.setCell ⟨a, k0, none⟩ u) := by
  have c : Chg (· = a) w (w.setCell ⟨a, k0, none⟩ u) := (Chg.refl _ _).set1 _ _
  have hq : S a ∧ ow a = i := by
    obtain ⟨_, _, _, _, ⟨o1, o2, o3⟩, s1, s2, s3⟩ := hx
    have hi := (nd_some hn).2
    rcases ha with rfl | rfl | rfl
    · exact ⟨s1, o1.trans hi⟩
    · exact ⟨s2, o2.trans hi⟩
    · exact ⟨s3, o3.trans hi⟩
  exact ⟨h.upd hn hb g hg hok c (fun k hk => by rw [hk]; exact hq) ⟨br, bd, hx'⟩, c.mono fun k _ hk => by rw [hk]; exact hq.1⟩
set_option maxRecDepth 100000 in
set_option maxHeartbeats 1000000 in
theorem setref_any (h : Gr w z S p m tb f ow cs L) {k t : Int} (hi : In64 i) (hk : In64 k) (ht : In64 t) :
    Calls Tryz.prog 22 #[ptr p, .int .i64 i, .int .i64 k, .int .i64 t] w fun e w' => e = .returned (.int .i64 (srX L i k t)) ∧ Gr w' z S p m tb f ow cs (srL L i k t) ∧ Chg S w w' := by
  have HG := hide h
  cases hn : nd L i with
  | none =>
    have HX := hide (show srX L i k t = 7 ∧ srL L i k t = L by simp [srX, srL, hn])
    have hl := look_none h hi hn
    clear h
    go_enter Tryz.func22, Tryz.ntmps22
    go_wp2_with fail
    refine (all_g HG.out).mono ?_
    rintro e w' ⟨rfl, rfl⟩
    go_wp2
    go_ret
    exact ⟨ret_int HX.out.1.symm, by rw [HX.out.2]; exact HG.out, Chg.refl _ _⟩
  | some x =>
    obtain ⟨b, br, bd, hb, hl, hx⟩ := look_some h hi hn
    obtain ⟨-, -, c2, -, -, -⟩ := hx.cells
    have HO := hide (h.ok x (nd_some hn).1)
    have hg1 := h.cell1
    by_cases hk0 : k < 0 ∨ (x.refs.length : Int) ≤ k
    · have HX := hide (show srX L i k t = 1 ∧ srL L i k t = L by simp [srX, srL, hn, hk0])
      clear h hx
      generalize x.refs.length = n at *
      rcases hk0 with hk0 | hk0
      · have q1 : decide (k < 0) = true := by simpa using hk0
        clear hk0
        go_enter Tryz.func22, Tryz.ntmps22
        go_wp2_with fail
        refine (all_g HG.out).mono ?_
        rintro e w' ⟨rfl, rfl⟩
        go_wp2
        go_ret
        exact ⟨ret_int HX.out.1.symm, by rw [HX.out.2]; exact HG.out, Chg.refl _ _⟩
      · have q1 : decide (k < 0) = false := by simp; omega
        have q2 : decide (k ≥ (n : Int)) = true := by simp; omega
        clear hk0
        go_enter Tryz.func22, Tryz.ntmps22
        go_wp2_with fail
        refine (all_g HG.out).mono ?_
        rintro e w' ⟨rfl, rfl⟩
        go_wp2
        go_ret
        exact ⟨ret_int HX.out.1.symm, by rw [HX.out.2]; exact HG.out, Chg.refl _ _⟩
    · obtain ⟨n, rfl⟩ := Int.eq_ofNat_of_zero_le (show 0 ≤ k by omega)
      have hkn : n < x.refs.length := by omega
      have q1 : decide ((n : Int) < 0) = false := decide_eq_false (by omega)
      have q2 : decide ((n : Int) ≥ (x.refs.length : Int)) = false := by simp; omega
      by_cases ht0 : t = 0
      · subst ht0
        have HX := hide (srX_ok hn hk0 (t := 0) (by simp))
        have HR := hide (h.ofNod hn hb hx (.inr (.inl rfl)) (k0 := n) (fun x => { x with refs := x.refs.set n 0 }) (fun _ => rfl) (HO.out.setRef n ht) (hx.setRef n 0))
        have cr := hx.2.1.cell n
        rw [ints_get _ _ hkn] at cr
        have fr := hx.2.1.frozen n
        clear h hk0 hx
        generalize x.refs.length = l at *
        go_enter Tryz.func22, Tryz.ntmps22
        go_wp2_with fail
        refine (all_g HG.out).mono ?_
        rintro e w' ⟨rfl, rfl⟩
        go_wp2
        go_ret
        exact ⟨ret_int HX.out.1.symm, by rw [HX.out.2]; exact HR.out.1, HR.out.2⟩
      · cases hnt : nd L t with
        | none =>
          have HX := hide (show srX L i (n : Int) t = 7 ∧ srL L i (n : Int) t = L by
            have e : srX L i n t = 7 := by
              simp only [srX, hn]
              rw [if_neg hk0, if_pos ⟨ht0, hnt⟩]
            exact ⟨e, by unfold srL; rw [if_neg (by rw [e]; decide)]⟩)
          have hlt := look_none h ht hnt
          have q3 : (t != 0) = true := by simpa using ht0
          clear h hk0 hx ht0
          generalize x.refs.length = l at *
          go_enter Tryz.func22, Tryz.ntmps22
          go_wp2_with fail
          refine (all_g HG.out).mono ?_
          rintro e w' ⟨rfl, rfl⟩
          go_wp2
          go_ret
          exact ⟨ret_int HX.out.1.symm, by rw [HX.out.2]; exact HG.out, Chg.refl _ _⟩
        | some y =>
          have HX := hide (srX_ok hn hk0 (t := t) (by simp [hnt]))
          have HR := hide (h.ofNod hn hb hx (.inr (.inl rfl)) (k0 := n) (fun x => { x with refs := x.refs.set n t }) (fun _ => rfl) (HO.out.setRef n ht) (hx.setRef n t))
          obtain ⟨b', br', bd', hb', hlt, hx'⟩ := look_some h ht hnt
          have q3 : (t != 0) = true := by simpa using ht0
          have cr := hx.2.1.cell n
          rw [ints_get _ _ hkn] at cr
          have fr := hx.2.1.frozen n
          clear h hk0 hx ht0 hx'
          generalize x.refs.length = l at *
          go_enter Tryz.func22, Tryz.ntmps22
          go_wp2_with fail
          refine (all_g HG.out).mono ?_
          rintro e w' ⟨rfl, rfl⟩
          go_wp2
          go_ret
          exact ⟨ret_int HX.out.1.symm, by rw [HX.out.2]; exact HR.out.1, HR.out.2⟩

set_option maxRecDepth 100000 in
set_option maxHeartbeats 1000000 in
theorem done_any (h : Gr w z S p m tb f ow cs L) (hi : In64 i) :
    Calls Tryz.prog 39 #[ptr p, .int .i64 i] w fun e w' => e = .returned (.int .i64 (dnX L i)) ∧ Gr w' z S p m tb f ow cs (dnL L i) ∧ Chg S w w' := by
  have HG := hide h
  cases hn : nd L i with
  | none =>
    have HX := hide (show dnX L i = 7 ∧ dnL L i = L by simp [dnX, dnL, hn])
    have hl := look_none h hi hn
    clear h
    go_enter Tryz.func39, Tryz.ntmps39
    go_wp2_with fail
    refine (all_g HG.out).mono ?_
    rintro e w' ⟨rfl, rfl⟩
    go_wp2
    go_ret
    exact ⟨ret_int HX.out.1.symm, by rw [HX.out.2]; exact HG.out, Chg.refl _ _⟩
  | some x =>
    obtain ⟨b, br, bd, hb, hl, hx⟩ := look_some h hi hn
    obtain ⟨-, -, -, -, c4, -⟩ := hx.cells
    have HO := hide (h.ok x (nd_some hn).1)
    have HX := hide (show dnX L i = 0 ∧ dnL L i = updN L i fun x => { x with fin := false } by simp [dnX, dnL, hn])
    have HR := hide (h.ofNod hn hb hx (.inl rfl) (k0 := 4) (fun x => { x with fin := false }) (fun _ => rfl) HO.out.done hx.done)
    have fr := hx.1.frozen 4
    clear h hx
    go_enter Tryz.func39, Tryz.ntmps39
    go_wp2_with fail
    refine (all_g HG.out).mono ?_
    rintro e w' ⟨rfl, rfl⟩
    go_wp2
    go_ret
    exact ⟨ret_int HX.out.1.symm, by rw [HX.out.2]; exact HR.out.1, HR.out.2⟩
end
end Go.Proofs.YtjfpjnhlnoiekaaGreat.L9
/- Graphs: Add: what it answers and does, whatever the argument. Conditions: the numbers fit an int; a graph has fewer than 1000000 nodes. -/
namespace Go.Proofs.YtjfpjnhlnoiekaaGreat.L9
open Go.ChangeShapes Go.WideShapes Go.ChangeAt Go.RowKit Go.Maps
open Go.Proofs.YtjfpjnhlnoiekaaGreat.L5 (Cl clV rtB Tb clAt shX shR shD woV hoB IsCls newX isRf shape_any words_any of_in clAt_some)
set_option linter.unusedVariables false

def newNd (cs : List Cl) (i c l : Int) : Nd := ⟨i, c, zeros (shR (clAt cs c) l).toNat, zeros (shD (clAt cs c) l).toNat, match clAt cs c with | some k => k.f | none => false⟩
/-- A node more, where its name belongs. -/
def ins (L : List Nd) (x : Nd) : List Nd := L.takeWhile (fun y => decide (y.id < x.id)) ++ x :: L.dropWhile (fun y => decide (y.id < x.id))
def adX (cs : List Cl) (L : List Nd) (i c l : Int) : Int := if shX (clAt cs c) l ≠ 0 then shX (clAt cs c) l else if i < 1 ∨ nd L i ≠ none then 1 else 0
def adL (cs : List Cl) (L : List Nd) (i c l : Int) : List Nd := if adX cs L i c l = 0 then ins L (newNd cs i c l) else L
theorem mem_ins {L : List Nd} {x y : Nd} : y ∈ ins L x ↔ y = x ∨ y ∈ L := by
  unfold ins
  conv => rhs; rw [← List.takeWhile_append_dropWhile (p := fun y : Nd => decide (y.id < x.id)) (l := L)]
  simp only [List.mem_append, List.mem_cons]
  constructor
  · rintro (h | h | h)
    · exact .inr (.inl h)
    · exact .inl h
    · exact .inr (.inr h)
  · rintro (h | h | h)
    · exact .inr (.inl h)
    · exact .inl h
    · exact .inr (.inr h)
theorem ins_cons (a : Nd) (l : List Nd) (x : Nd) : ins (a :: l) x = if a.id < x.id then a :: ins l x else x :: a :: l := by
  unfold ins
  by_cases h : a.id < x.id <;> simp [h]
theorem ins_srt {L : List Nd} {x : Nd} (hs : Srt L) (hn : nd L x.id = none) : Srt (ins L x) := by
  have hne := nd_none hn
  clear hn
  induction L with
  | nil => exact List.pairwise_singleton _ _
  | cons a l ih =>
    obtain ⟨h1, h2⟩ := List.pairwise_cons.1 hs
    have ha := hne a List.mem_cons_self
    rw [ins_cons]
    split
    · rename_i hlt
      refine List.pairwise_cons.2 ⟨fun y hy => ?_, ih h2 fun y hy => hne y (List.mem_cons_of_mem _ hy)⟩
      rcases mem_ins.1 hy with rfl | hy
      · exact hlt
      · exact h1 y hy
    · refine List.pairwise_cons.2 ⟨fun y hy => ?_, hs⟩
      rcases List.mem_cons.1 hy with rfl | hy
      · omega
      · have := h1 y hy; omega
theorem ins_len (L : List Nd) (x : Nd) : (ins L x).length = L.length + 1 := by
  unfold ins
  have := congrArg List.length (List.takeWhile_append_dropWhile (p := fun y : Nd => decide (y.id < x.id)) (l := L))
  simp only [List.length_append, List.length_cons] at this ⊢
  omega
section
variable {w : World} {z p m tb : Nat} {S : Nat → Prop} {f : Int → Option Nat} {ow : Nat → Int} {cs : List Cl} {L : List Nd} {x : Nd} {i c l : Int}
set_option maxRecDepth 100000 in
set_option maxHeartbeats 1000000 in
theorem add_no (h : Gr w z S p m tb f ow cs L) (hi : In64 i) {X : Int} (hX : adX cs L i c l = X) (h0 : X ≠ 0) :
    Calls Tryz.prog 20 #[ptr p, .int .i64 i, .int .i64 c, .int .i64 l] w fun e w' => e = .returned (.int .i64 X) ∧ Grow w w' := by
  have HG := hide h
  obtain ⟨base, v, ht⟩ := h.tb_
  have HT := hide ht
  have k0 := h.cell0
  clear ht
  obtain ⟨R, hR⟩ : ∃ R, shR (clAt cs c) l = R := ⟨_, rfl⟩
  obtain ⟨D, hD⟩ : ∃ D, shD (clAt cs c) l = D := ⟨_, rfl⟩
  obtain ⟨Y, hY⟩ : ∃ Y, shX (clAt cs c) l = Y := ⟨_, rfl⟩
  have HSH := hide (⟨hR, hD, hY⟩ : shR (clAt cs c) l = R ∧ shD (clAt cs c) l = D ∧ shX (clAt cs c) l = Y)
  unfold adX at hX
  rw [hY] at hX
  clear hR hD hY
  by_cases hY0 : Y ≠ 0
  · rw [if_pos hY0] at hX
    subst hX
    have q1 : (Y != 0) = true := by simpa using hY0
    clear h hY0 h0
    go_enter Tryz.func20, Tryz.ntmps20
    go_wp2_with fail
    refine (shape_any HT.out HG.out.cl HG.out.rt l c).mono ?_
    rintro e w1 ⟨rfl, g1⟩
    rw [HSH.out.1, HSH.out.2.1, HSH.out.2.2]
    go_wp2
    go_ret
    exact ⟨rfl, g1⟩
  · rw [if_neg hY0] at hX
    have hY1 : Y = 0 := Classical.not_not.1 hY0
    subst hY1
    by_cases hi1 : i < 1
    · rw [if_pos (.inl hi1)] at hX
      subst hX
      have q1 : decide (i < 1) = true := by simpa using hi1
      clear h hY0 h0 hi1
      go_enter Tryz.func20, Tryz.ntmps20
      go_wp2_with fail
      refine (shape_any HT.out HG.out.cl HG.out.rt l c).mono ?_
      rintro e w1 ⟨rfl, g1⟩
      rw [HSH.out.1, HSH.out.2.1, HSH.out.2.2]
      go_wp2
      go_ret
      exact ⟨rfl, g1⟩
    · have q1 : decide (i < 1) = false := by simpa using hi1
      by_cases hn : nd L i = none
      · rw [if_neg (by rintro (h | h); exact hi1 h; exact h hn)] at hX
        exact absurd hX.symm h0
      · rw [if_pos (.inr hn)] at hX
        subst hX
        obtain ⟨x, hx⟩ := Option.ne_none_iff_exists'.1 hn
        clear h hY0 h0 hi1 hn
        go_enter Tryz.func20, Tryz.ntmps20
        go_wp2_with fail
        refine (shape_any HT.out HG.out.cl HG.out.rt l c).mono ?_
        rintro e w1 ⟨rfl, g1⟩
        rw [HSH.out.1, HSH.out.2.1, HSH.out.2.2]
        obtain ⟨b, br, bd, hb, hl, hx'⟩ := look_some (HG.out.grow g1) hi hx
        have k1 := (HG.out.grow g1).cell1
        clear hx'
        go_wp2
        go_ret
        exact ⟨rfl, g1⟩
theorem rt_rf {K R D : Int} {f : Bool} (h : rtB K R D f = true) (hr : isRf K = true) : 1 ≤ R := by
  unfold rtB at h
  rw [if_pos hr] at h
  simp at h
  omega
/-- The map takes a new node in. -/
theorem Gr.put (h : Gr w z S p m tb f ow cs L) (hi : In64 i) (hn : nd L i = none) (hl : L.length < 1000000) {x : Nd} (hx : x.id = i) (hok : x.Ok cs) {W : World} (g : Grow w W) {b br bd : Nat}
    (hb : Blk W b 87 [.int .i64 x.id, .int .i64 x.c, .slice (some ⟨br, 0, none⟩) x.refs.length x.refs.length, .slice (some ⟨bd, 0, none⟩) x.data.length x.data.length, .bool x.fin, .int .i64 x.wo])
    (hr : Blk W br 3 (ints x.refs)) (hd : Blk W bd 3 (ints x.data)) (hne : br ≠ bd) (h1 : w.heap.size ≤ b) (h2 : w.heap.size ≤ br) (h3 : w.heap.size ≤ bd) :
    ∃ W', (Instr.mapUpdate 84 (.map (some m)) (.int .i64 i) (.pointer (some ⟨b, 0, none⟩))).run Tryz.prog W = .ok () W' ∧ Chg (· = m) W W' ∧ Chg S w W' ∧
      ∃ S' f' ow', Gr W' z S' p m tb f' ow' cs (ins L x) ∧ ∀ k, S' k ↔ S k ∨ (w.heap.size ≤ k ∧ k < W'.heap.size) := by
  have hzw : z ≤ w.heap.size := Nat.le_of_lt (Nat.lt_of_le_of_lt (h.s p h.sp).1 (h.s p h.sp).2)
  have hG := h.grow g
  obtain ⟨W', hrun, hM, hc⟩ := hG.map.put h.f_iff (srt_nodup h.srt) (by rw [List.length_map]; unfold maxLen; omega) hi b
  have hm := h.s m h.sm
  have hp := h.s p h.sp
  have hcc : Chg S w W' := (g.mono (fun _ _ h => h.elim)).step hc fun k _ hk => by rw [hk]; exact h.sm
  refine ⟨W', hrun, hc, hcc, fun k => S k ∨ (w.heap.size ≤ k ∧ k < W'.heap.size), fun y => if y = i then some b else f y, fun k => if k < w.heap.size then ow k else i, ?_, fun _ => Iff.rfl⟩
  have hgW := hc.size
  have ob := hb.lt
  have obr := hr.lt
  have obd := hd.lt
  refine ⟨hG.blk.chg hc h.pm, hM, .inl h.sp, .inl h.sm, h.pm, ?_, ?_, ?_, ?_, ins_srt h.srt (by rw [hx]; exact hn), ?_, ?_, h.cl, h.rt⟩
  · simp only [if_pos hm.2, if_pos hp.2]
    exact h.om
  · rintro k (hk | hk)
    · have := h.s k hk
      exact ⟨this.1, Nat.lt_of_lt_of_le this.2 hcc.size⟩
    · exact ⟨Nat.le_trans hzw hk.1, hk.2⟩
  · intro y hy
    rcases mem_ins.1 hy with rfl | hy
    · refine ⟨b, by simp [hx], br, bd, hb.chg hc (by omega), hr.chg hc (by omega), hd.chg hc (by omega), hne, ?_, .inr ⟨h1, by omega⟩, .inr ⟨h2, by omega⟩, .inr ⟨h3, by omega⟩⟩
      have e1 : ¬ b < w.heap.size := by omega
      have e2 : ¬ br < w.heap.size := by omega
      have e3 : ¬ bd < w.heap.size := by omega
      simp only [if_neg e1, if_neg e2, if_neg e3]
      exact ⟨hx.symm, hx.symm, hx.symm⟩
    · obtain ⟨b', hb', hnd⟩ := hG.nds y hy
      have hyi : y.id ≠ i := nd_none hn y hy
      refine ⟨b', by simp only [if_neg hyi]; exact hb', ?_⟩
      have hy1 := (h.ok y hy).id1
      refine (hnd.chg hc fun k hk ho hkm => ?_).wide (fun k hk => .inl hk) fun k hk => ?_
      · rw [hkm, h.om.1] at ho; omega
      · rw [if_pos (h.s k hk).2]
  · intro j hj
    by_cases e : j = i
    · exact ⟨x, mem_ins.2 (.inl rfl), by rw [hx, e]⟩
    · simp only [if_neg e] at hj
      obtain ⟨y, hy, hyj⟩ := h.no j hj
      exact ⟨y, mem_ins.2 (.inr hy), hyj⟩
  · intro y hy
    rcases mem_ins.1 hy with rfl | hy
    · exact hok
    · exact h.ok y hy
  · obtain ⟨base, v, t, t1, t2⟩ := hG.tab
    exact ⟨base, v, Tb.chgT t t1 t2 hc fun k hk => by rw [hk]; exact hm.1, t1, t2⟩
set_option maxRecDepth 100000 in
set_option maxHeartbeats 4000000 in
theorem add_yes (h : Gr w z S p m tb f ow cs L) (hi : In64 i) (hX : adX cs L i c l = 0) (hl : L.length < 1000000) :
    Calls Tryz.prog 20 #[ptr p, .int .i64 i, .int .i64 c, .int .i64 l] w fun e w' => e = .returned (.int .i64 0) ∧ Chg S w w' ∧
      ∃ S' f' ow', Gr w' z S' p m tb f' ow' cs (ins L (newNd cs i c l)) ∧ ∀ k, S' k ↔ S k ∨ (w.heap.size ≤ k ∧ k < w'.heap.size) := by
  have HG := hide h
  obtain ⟨base, v, ht⟩ := h.tb_
  have HT := hide ht
  have k0 := h.cell0
  clear ht
  have hY : shX (clAt cs c) l = 0 := by
    unfold adX at hX
    by_cases e : shX (clAt cs c) l ≠ 0
    · rw [if_pos e] at hX; exact absurd hX e
    · exact Classical.not_not.1 e
  have hi1 : ¬ (i < 1 ∨ nd L i ≠ none) := by
    intro e
    unfold adX at hX
    rw [if_neg (by simp [hY]), if_pos e] at hX
    cases hX
  have q1 : decide (i < 1) = false := decide_eq_false (fun e => hi1 (.inl e))
  have hn : nd L i = none := Classical.not_not.1 (fun e => hi1 (.inr e))
  obtain ⟨k, hk⟩ : ∃ k, clAt cs c = some k := by
    cases hc : clAt cs c with
    | none => rw [hc] at hY; simp [shX] at hY
    | some k => exact ⟨k, rfl⟩
  obtain ⟨j, hcj, hjl, hjc⟩ := clAt_some hk
  have hbd := L5.sh_bd (o := clAt cs c) (fun k hk => L5.clAt_rt h.rt hk) l
  obtain ⟨R, hR⟩ : ∃ R, shR (clAt cs c) l = R := ⟨_, rfl⟩
  obtain ⟨D, hD⟩ : ∃ D, shD (clAt cs c) l = D := ⟨_, rfl⟩
  obtain ⟨V, hV⟩ : ∃ V, woV (clAt cs c) l = V := ⟨_, rfl⟩
  have HSH := hide (⟨hR, hD, hY⟩ : shR (clAt cs c) l = R ∧ shD (clAt cs c) l = D ∧ shX (clAt cs c) l = 0)
  have hV2 : V = 2 + R + D := by rw [← hV, ← hR, ← hD]; unfold woV; rw [if_pos hY]
  rw [hR, hD] at hbd
  have HB := hide hbd
  have HC := hide hjc
  have HCJ := hide hcj
  have href : isRf k.k = true → 1 ≤ R := fun hrf => by
    have h1 := rt_rf (L5.clAt_rt h.rt hk) hrf
    have h2 : R = k.r + l ∧ ¬ l < 0 := by
      rw [hk] at hR hY
      unfold shR at hR
      simp only [hY, if_true] at hR
      unfold shX at hY
      refine ⟨hR.symm, fun hl0 => ?_⟩
      simp [hl0] at hY
    omega
  have hnew : newNd cs i c l = ⟨i, c, zeros R.toNat, zeros D.toNat, k.f⟩ := by unfold newNd; rw [hR, hD, hk]
  have hok : Nd.Ok cs ⟨i, c, zeros R.toNat, zeros D.toNat, k.f⟩ := by
    refine ⟨?_, hi, ?_, ?_, ?_, k, hk, fun hrf => ?_⟩
    · have := of_decide_eq_false q1; show 1 ≤ i; omega
    · show (zeros R.toNat).length ≤ 30; rw [zeros_length]; omega
    · show (zeros D.toNat).length ≤ 30; rw [zeros_length]; omega
    · intro r hr
      have : r = 0 := by have := List.eq_of_mem_replicate hr; exact this
      rw [this]; show (Lit.int .i64 0).wf = true; decide
    · have := href hrf; show 0 < (zeros R.toNat).length; rw [zeros_length]; omega
  have HOK := hide hok
  have HN := hide hnew
  clear hok hnew href
  have HV := hide (⟨hV, hY, hV2⟩ : woV (clAt cs c) l = V ∧ shX (clAt cs c) l = 0 ∧ V = 2 + R + D)
  have HK := hide hk
  have HL := hide hl
  have mk1 := mk_ints R hbd.1 (by omega)
  have mk2 := mk_ints D hbd.2.2.1 (by omega)
  obtain ⟨kk, kr, kd, kf⟩ := k
  clear hR hD hY h hX hi1 hV hV2 hbd hjc hcj hjl hk hl
  go_enter Tryz.func20, Tryz.ntmps20
  go_wp2_with fail
  refine (shape_any HT.out HG.out.cl HG.out.rt l c).mono ?_
  rintro e w1 ⟨rfl, g1⟩
  rw [HSH.out.1, HSH.out.2.1, HSH.out.2.2]
  have hl0 := look_none (HG.out.grow g1) hi hn
  have k1 := (HG.out.grow g1).cell1
  replace k0 := (HG.out.grow g1).cell0
  go_wp2_with fail
  refine (of_in (HT.out.grow g1) HG.out.cl HC.out HCJ.out).mono ?_
  rintro e w2 ⟨rfl, g2⟩
  dsimp only
  have g2' := g2.trans (Grow.box w2 (.cells [.int .i64 kk, .int .i64 kr, .int .i64 kd, .bool kf].toArray 61))
  replace k0 := Grow.cell g2' k0
  have hkb := Blk.new w2 61 [.int .i64 kk, .int .i64 kr, .int .i64 kd, .bool kf]
  go_wp2_with fail
  have ht2 := (HT.out.grow g1).grow g2'
  have HKB := hide (show m < w2.heap.size by have := (HG.out.s m HG.out.sm).2; have := g1.size; have := g2.size; omega)
  generalize w2.heap.size = kb at *
  generalize w2.alloc (.cells #[.int .i64 kk, .int .i64 kr, .int .i64 kd, .bool kf] 61) = w3 at *
  refine (words_any ht2 HG.out.cl HG.out.rt l c).mono ?_
  rintro e w4 ⟨rfl, g4⟩
  rw [HV.out.1, HV.out.2.1]
  replace k1 := Grow.cell (g2'.trans g4) k1
  have kf3 : w4.cell? ⟨kb, 3, none⟩ = some (.bool kf) := g4.cell (hkb.cell 3)
  clear hkb k0 ht2 g2 hl0
  have g5 := (g1.trans g2').trans g4
  clear g1 g2' g4
  have hn0 := HN.out
  have ord1 : ∀ A B : Nat, ((w4.alloc (.cells (ints (zeros A)).toArray 3)).alloc (.cells (ints (zeros B)).toArray 3)).heap.size = w4.heap.size + 1 + 1 := fun A B => by simp
  have eR : (zeros R.toNat).length = R.toNat := zeros_length _
  have eD : (zeros D.toNat).length = D.toNat := zeros_length _
  have eV : ((2 + (zeros R.toNat).length + (zeros D.toNat).length : Nat) : Int) = V := by have := HB.out; have := HV.out.2.2; rw [eR, eD]; omega
  have hA1 := (Blk.new w4 3 (ints (zeros R.toNat))).alloc (.cells (ints (zeros D.toNat)).toArray 3)
  have hB1 := Blk.new (w4.alloc (.cells (ints (zeros R.toNat)).toArray 3)) 3 (ints (zeros D.toNat))
  rw [show (w4.alloc (.cells (ints (zeros R.toNat)).toArray 3)).heap.size = w4.heap.size + 1 by simp] at hB1
  have hA2 := (Blk.new w4 3 (ints (zeros D.toNat))).alloc (.cells (ints (zeros R.toNat)).toArray 3)
  have hB2 := Blk.new (w4.alloc (.cells (ints (zeros D.toNat)).toArray 3)) 3 (ints (zeros R.toNat))
  rw [show (w4.alloc (.cells (ints (zeros D.toNat)).toArray 3)).heap.size = w4.heap.size + 1 by simp] at hB2
  obtain ⟨W1, hr1, hc1, hcc1, hG1⟩ := Gr.put (x := ⟨i, c, zeros R.toNat, zeros D.toNat, kf⟩) (W := (((w4.alloc (.cells (ints (zeros R.toNat)).toArray 3)).alloc (.cells (ints (zeros D.toNat)).toArray 3)).alloc (.cells #[.int .i64 i, .int .i64 c, .slice (some ⟨w4.heap.size, 0, none⟩) R.toNat R.toNat, .slice (some ⟨w4.heap.size + 1, 0, none⟩) D.toNat D.toNat, .bool kf, .int .i64 V] 87)).drew) (b := w4.heap.size + 1 + 1) (br := w4.heap.size) (bd := w4.heap.size + 1)
    HG.out hi hn HL.out rfl HOK.out ((((g5.alloc _).alloc _).alloc _).drew)
    (by
      have := Blk.new ((w4.alloc (.cells (ints (zeros R.toNat)).toArray 3)).alloc (.cells (ints (zeros D.toNat)).toArray 3)) 87 [.int .i64 i, .int .i64 c, .slice (some ⟨w4.heap.size, 0, none⟩) R.toNat R.toNat, .slice (some ⟨w4.heap.size + 1, 0, none⟩) D.toNat D.toNat, .bool kf, .int .i64 V]
      rw [ord1] at this
      show Blk _ _ _ [.int .i64 i, .int .i64 c, .slice _ (zeros R.toNat).length (zeros R.toNat).length, .slice _ (zeros D.toNat).length (zeros D.toNat).length, .bool kf, .int .i64 ((2 + (zeros R.toNat).length + (zeros D.toNat).length : Nat) : Int)]
      rw [eV, eR, eD]
      exact this.drew)
    (by exact (hA1.alloc _).drew) (by exact (hB1.alloc _).drew) (by omega) (by have := g5.size; omega) (by have := g5.size; omega) (by have := g5.size; omega)
  have hk1 : W1.cell? ⟨p, 1, none⟩ = some (.map (some m)) ∧ W1.cell? ⟨kb, 3, none⟩ = some (.bool kf) := ⟨Chg.cell hc1 (Grow.cell ((((Grow.box w4 _).alloc _).alloc _).drew) k1) HG.out.pm, Chg.cell hc1 (Grow.cell ((((Grow.box w4 _).alloc _).alloc _).drew) kf3) (by have := HKB.out; show ¬ kb = m; omega)⟩
  have HH1 := hide (⟨hcc1, hG1⟩ : Chg S w W1 ∧ _)
  clear hc1 hcc1 hG1
  obtain ⟨W2, hr2, hc2, hcc2, hG2⟩ := Gr.put (x := ⟨i, c, zeros R.toNat, zeros D.toNat, kf⟩) (W := (((w4.alloc (.cells (ints (zeros D.toNat)).toArray 3)).alloc (.cells (ints (zeros R.toNat)).toArray 3)).alloc (.cells #[.int .i64 i, .int .i64 c, .slice (some ⟨w4.heap.size + 1, 0, none⟩) R.toNat R.toNat, .slice (some ⟨w4.heap.size, 0, none⟩) D.toNat D.toNat, .bool kf, .int .i64 V] 87)).drew) (b := w4.heap.size + 1 + 1) (br := w4.heap.size + 1) (bd := w4.heap.size)
    HG.out hi hn HL.out rfl HOK.out ((((g5.alloc _).alloc _).alloc _).drew)
    (by
      have := Blk.new ((w4.alloc (.cells (ints (zeros D.toNat)).toArray 3)).alloc (.cells (ints (zeros R.toNat)).toArray 3)) 87 [.int .i64 i, .int .i64 c, .slice (some ⟨w4.heap.size + 1, 0, none⟩) R.toNat R.toNat, .slice (some ⟨w4.heap.size, 0, none⟩) D.toNat D.toNat, .bool kf, .int .i64 V]
      rw [ord1] at this
      show Blk _ _ _ [.int .i64 i, .int .i64 c, .slice _ (zeros R.toNat).length (zeros R.toNat).length, .slice _ (zeros D.toNat).length (zeros D.toNat).length, .bool kf, .int .i64 ((2 + (zeros R.toNat).length + (zeros D.toNat).length : Nat) : Int)]
      rw [eV, eR, eD]
      exact this.drew)
    (by exact (hB2.alloc _).drew) (by exact (hA2.alloc _).drew) (by omega) (by have := g5.size; omega) (by have := g5.size; omega) (by have := g5.size; omega)
  have hk2 : W2.cell? ⟨p, 1, none⟩ = some (.map (some m)) ∧ W2.cell? ⟨kb, 3, none⟩ = some (.bool kf) := ⟨Chg.cell hc2 (Grow.cell ((((Grow.box w4 _).alloc _).alloc _).drew) k1) HG.out.pm, Chg.cell hc2 (Grow.cell ((((Grow.box w4 _).alloc _).alloc _).drew) kf3) (by have := HKB.out; show ¬ kb = m; omega)⟩
  have HH2 := hide (⟨hcc2, hG2⟩ : Chg S w W2 ∧ _)
  clear hc2 hcc2 hG2
  clear hA1 hB1 hA2 hB2 ord1 eR eD eV hn0
  go_wp2_with fail
  go_region_held3 (fun W => W.cell? ⟨p, 1, none⟩ = some (.map (some m)) ∧ W.cell? ⟨kb, 3, none⟩ = some (.bool kf)) (first | assumption | (refine ⟨Grow.cell ?_ k1, Grow.cell ?_ kf3⟩ <;> (repeat (first | exact Chg.refl _ _ | refine Chg.drew ?_ | refine Chg.alloc ?_ _)))) (fail)
  all_goals go_wp2
  all_goals go_ret
  · exact ⟨rfl, HH1.out.1, by rw [HN.out]; exact HH1.out.2⟩
  · exact ⟨rfl, HH2.out.1, by rw [HN.out]; exact HH2.out.2⟩
end
end Go.Proofs.YtjfpjnhlnoiekaaGreat.L9
/- The library's contracts on slices.Sorted(maps.Keys(m)) at this program: which function and which type of the program stands for which of theirs. Conditions: none. -/
namespace Go.Proofs
open Go.Shelf
def Tryz.keysA_ren : Go.Shelf.Ren := ⟨fun | 7 => 44 | 10 => 64 | n => n, fun | 23 => 84 | 26 => 3 | 3 => 83 | 28 => 95 | 0 => 0 | 27 => 94 | 33 => 125 | 4 => 4 | n => n, fun | n => n⟩
theorem Tryz.keysA : Go.Proofs.SlLaysZI.n7 Tryz.prog Tryz.keysA_ren := {
  mixed := by kernel_rfl
  f7 := ⟨Tryz.f44.name, by decide, Tryz.func44.trans (congrArg some (by kernel_rfl))⟩
  f10 := ⟨Tryz.f64.name, by decide, Tryz.func64.trans (congrArg some (by kernel_rfl))⟩
  t0 := Tryz.underlying0
  a0 := Tryz.isAgg0
  z0 := Tryz.sizeOf0
  v0 := Tryz.zeroValue0
  t4 := Tryz.underlying4
  a4 := Tryz.isAgg4
  z4 := Tryz.sizeOf4
  v4 := Tryz.zeroValue4
  t23 := Tryz.underlying84
  a23 := Tryz.isAgg84
  z23 := Tryz.sizeOf84
  v23 := Tryz.zeroValue84
  t26 := Tryz.underlying3
  a26 := Tryz.isAgg3
  z26 := Tryz.sizeOf3
  v26 := Tryz.zeroValue3
  t27 := Tryz.underlying94
  a27 := Tryz.isAgg94
  z27 := Tryz.sizeOf94
  v27 := Tryz.zeroValue94
  t28 := Tryz.underlying95
  a28 := Tryz.isAgg95
  z28 := Tryz.sizeOf95
  v28 := Tryz.zeroValue95
  t33 := Tryz.underlying125
  a33 := Tryz.isAgg125
  z33 := Tryz.sizeOf125
  v33 := Tryz.zeroValue125 }
def Tryz.sortedA_ren : Go.Shelf.Ren := ⟨fun | 6 => 43 | 8 => 62 | 9 => 63 | 11 => 73 | 13 => 75 | 12 => 74 | 23 => 90 | 24 => 91 | 14 => 82 | 15 => 83 | 16 => 84 | 17 => 85 | 18 => 86 | 19 => 87 | 20 => 78 | 21 => 88 | 22 => 89 | 25 => 98 | 26 => 99 | 27 => 100 | 28 => 101 | 29 => 102 | 30 => 96 | 31 => 105 | n => n, fun | 26 => 3 | 28 => 95 | 24 => 27 | 0 => 0 | 3 => 3 | 37 => 76 | 48 => 146 | 50 => 28 | 4 => 4 | 40 => 140 | 39 => 139 | 45 => 78 | 5 => 5 | 9 => 9 | 51 => 149 | 55 => 153 | 57 => 156 | 58 => 81 | 33 => 125 | n => n, fun | n => n⟩
theorem Tryz.sortedA : Go.Proofs.SlLaysZI.n6 Tryz.prog Tryz.sortedA_ren := {
  mixed := by kernel_rfl
  f6 := ⟨Tryz.f43.name, by decide, Tryz.func43.trans (congrArg some (by kernel_rfl))⟩
  f8 := ⟨Tryz.f62.name, by decide, Tryz.func62.trans (congrArg some (by kernel_rfl))⟩
  f11 := ⟨Tryz.f73.name, by decide, Tryz.func73.trans (congrArg some (by kernel_rfl))⟩
  t0 := Tryz.underlying0
  a0 := Tryz.isAgg0
  z0 := Tryz.sizeOf0
  v0 := Tryz.zeroValue0
  t24 := Tryz.underlying27
  a24 := Tryz.isAgg27
  z24 := Tryz.sizeOf27
  v24 := Tryz.zeroValue27
  t26 := Tryz.underlying3
  a26 := Tryz.isAgg3
  z26 := Tryz.sizeOf3
  v26 := Tryz.zeroValue3
  t28 := Tryz.underlying95
  a28 := Tryz.isAgg95
  z28 := Tryz.sizeOf95
  v28 := Tryz.zeroValue95
  i26 := by kernel_rfl }
def Tryz.sortA_ren : Go.Shelf.Ren := ⟨fun | 5 => 63 | 8 => 75 | 7 => 74 | 19 => 90 | 20 => 91 | 10 => 82 | 11 => 83 | 12 => 84 | 13 => 85 | 14 => 86 | 15 => 87 | 16 => 78 | 17 => 88 | 18 => 89 | 30 => 98 | 31 => 99 | 32 => 100 | 33 => 101 | 34 => 102 | 35 => 96 | 40 => 105 | n => n, fun | 23 => 27 | 25 => 3 | 3 => 3 | 32 => 76 | 22 => 27 | 0 => 0 | 44 => 146 | 46 => 28 | 4 => 4 | 36 => 140 | 35 => 139 | 41 => 78 | 5 => 5 | 9 => 9 | 53 => 149 | 57 => 153 | 63 => 156 | 64 => 81 | n => n, fun | n => n⟩
theorem Tryz.sortA : Go.Proofs.SlLaysM.n5 Tryz.prog Tryz.sortA_ren := {
  mixed := by kernel_rfl
  f5 := ⟨Tryz.f63.name, by decide, Tryz.func63.trans (congrArg some (by kernel_rfl))⟩
  f7 := ⟨Tryz.f74.name, by decide, Tryz.func74.trans (congrArg some (by kernel_rfl))⟩
  f8 := Tryz.func75.trans (congrArg some (by kernel_rfl))
  f10 := ⟨Tryz.f82.name, by decide, Tryz.func82.trans (congrArg some (by kernel_rfl))⟩
  f11 := ⟨Tryz.f83.name, by decide, Tryz.func83.trans (congrArg some (by kernel_rfl))⟩
  f12 := ⟨Tryz.f84.name, by decide, Tryz.func84.trans (congrArg some (by kernel_rfl))⟩
  f13 := ⟨Tryz.f85.name, by decide, Tryz.func85.trans (congrArg some (by kernel_rfl))⟩
  f14 := ⟨Tryz.f86.name, by decide, Tryz.func86.trans (congrArg some (by kernel_rfl))⟩
  f15 := ⟨Tryz.f87.name, by decide, Tryz.func87.trans (congrArg some (by kernel_rfl))⟩
  f16 := ⟨Tryz.f78.name, by decide, Tryz.func78.trans (congrArg some (by kernel_rfl))⟩
  f17 := ⟨Tryz.f88.name, by decide, Tryz.func88.trans (congrArg some (by kernel_rfl))⟩
  f18 := ⟨Tryz.f89.name, by decide, Tryz.func89.trans (congrArg some (by kernel_rfl))⟩
  f19 := Tryz.func90.trans (congrArg some (by kernel_rfl))
  f20 := Tryz.func91.trans (congrArg some (by kernel_rfl))
  f30 := ⟨Tryz.f98.name, by decide, Tryz.func98.trans (congrArg some (by kernel_rfl))⟩
  f31 := Tryz.func99.trans (congrArg some (by kernel_rfl))
  f32 := Tryz.func100.trans (congrArg some (by kernel_rfl))
  f33 := ⟨Tryz.f101.name, by decide, Tryz.func101.trans (congrArg some (by kernel_rfl))⟩
  f34 := ⟨Tryz.f102.name, by decide, Tryz.func102.trans (congrArg some (by kernel_rfl))⟩
  f35 := ⟨Tryz.f96.name, by decide, Tryz.func96.trans (congrArg some (by kernel_rfl))⟩
  f40 := ⟨Tryz.f105.name, by decide, Tryz.func105.trans (congrArg some (by kernel_rfl))⟩
  t0 := Tryz.underlying0
  a0 := Tryz.isAgg0
  z0 := Tryz.sizeOf0
  v0 := Tryz.zeroValue0
  t3 := Tryz.underlying3
  a3 := Tryz.isAgg3
  z3 := Tryz.sizeOf3
  v3 := Tryz.zeroValue3
  t4 := Tryz.underlying4
  a4 := Tryz.isAgg4
  z4 := Tryz.sizeOf4
  v4 := Tryz.zeroValue4
  t5 := Tryz.underlying5
  a5 := Tryz.isAgg5
  z5 := Tryz.sizeOf5
  v5 := Tryz.zeroValue5
  t9 := Tryz.underlying9
  a9 := Tryz.isAgg9
  z9 := Tryz.sizeOf9
  v9 := Tryz.zeroValue9
  t22 := Tryz.underlying27
  a22 := Tryz.isAgg27
  z22 := Tryz.sizeOf27
  v22 := Tryz.zeroValue27
  t23 := Tryz.underlying27
  a23 := Tryz.isAgg27
  z23 := Tryz.sizeOf27
  v23 := Tryz.zeroValue27
  t25 := Tryz.underlying3
  a25 := Tryz.isAgg3
  z25 := Tryz.sizeOf3
  v25 := Tryz.zeroValue3
  t32 := Tryz.underlying76
  a32 := Tryz.isAgg76
  z32 := Tryz.sizeOf76
  v32 := Tryz.zeroValue76
  t35 := Tryz.underlying139
  a35 := Tryz.isAgg139
  z35 := Tryz.sizeOf139
  v35 := Tryz.zeroValue139
  t36 := Tryz.underlying140
  a36 := Tryz.isAgg140
  z36 := Tryz.sizeOf140
  v36 := Tryz.zeroValue140
  t41 := Tryz.underlying78
  a41 := Tryz.isAgg78
  z41 := Tryz.sizeOf78
  v41 := Tryz.zeroValue78
  t44 := Tryz.underlying146
  a44 := Tryz.isAgg146
  z44 := Tryz.sizeOf146
  v44 := Tryz.zeroValue146
  t46 := Tryz.underlying28
  a46 := Tryz.isAgg28
  z46 := Tryz.sizeOf28
  v46 := Tryz.zeroValue28
  t53 := Tryz.underlying149
  a53 := Tryz.isAgg149
  z53 := Tryz.sizeOf149
  v53 := Tryz.zeroValue149
  t57 := Tryz.underlying153
  a57 := Tryz.isAgg153
  z57 := Tryz.sizeOf153
  v57 := Tryz.zeroValue153
  t63 := Tryz.underlying156
  a63 := Tryz.isAgg156
  z63 := Tryz.sizeOf156
  v63 := Tryz.zeroValue156
  t64 := Tryz.underlying81
  a64 := Tryz.isAgg81
  z64 := Tryz.sizeOf81
  v64 := Tryz.zeroValue81 }
end Go.Proofs
/- Graphs: Ids: the names, rising. Conditions: a graph has fewer than 1000000 nodes. -/
namespace Go.Proofs.YtjfpjnhlnoiekaaGreat.L9
open Go.ChangeShapes Go.WideShapes Go.ChangeAt Go.RowKit Go.Maps Go.Sort Go.Shelf
open Go.Proofs.YtjfpjnhlnoiekaaGreat.L5 (Cl clV rtB Tb clAt shX shR shD woV hoB IsCls newX isRf)
set_option linter.unusedVariables false

theorem sortsA (m : Nat) : AnyZI.SortsIn Tryz.prog Tryz.sortedA_ren Fence.wide m :=
  ⟨fun blk off cap ss W hH hblk hsz => callsIn_wide.2 (AnyM.slices_Sort_int Tryz.sortA blk off cap ss W hH hblk hsz),
   fun p cap W => callsIn_wide.2 (AnyM.slices_Sort_int_none Tryz.sortA p cap W)⟩
theorem Chg.of_b {w w' : World} (h : Below w.heap.size w w') : Grow w w' := Chg.of_below h fun _ hi hn => hn hi
section
variable {w : World} {z p m tb : Nat} {S : Nat → Prop} {f : Int → Option Nat} {ow : Nat → Int} {cs : List Cl} {L : List Nd}
theorem sort_of {ss ids : List Int} (h : ss.Perm ids) (hs : ids.Pairwise (· < ·)) : ss.mergeSort (fun x y => decide (x ≤ y)) = ids := by
  have h1 : (ss.mergeSort (fun x y => decide (x ≤ y))).Pairwise (fun x y => decide (x ≤ y) = true) := List.pairwise_mergeSort (fun a b c => by simp; omega) (fun a b => by simp; omega) ss
  refine List.Perm.eq_of_pairwise (le := fun x y => x ≤ y) (fun a b _ _ h1 h2 => by omega) (h1.imp (by intro a b h; simpa using h)) (hs.imp fun h => by omega) ((List.mergeSort_perm _ _).trans h)
set_option maxRecDepth 100000 in
set_option maxHeartbeats 1000000 in
theorem ids_any (h : Gr w z S p m tb f ow cs L) (hl : L.length < 1000000) :
    Calls Tryz.prog 15 #[ptr p] w fun e w' => ∃ v, e = .returned v ∧ w'.ownsRow w.heap.size 3 1 v L.length (ints (L.map Nd.id)) ∧ Grow w w' := by
  obtain ⟨D, ho, hk⟩ := h.map
  have hbl := ho.lt
  have hp := Mn.size_lt ⟨D, ho, hk⟩ h.f_iff (srt_nodup h.srt) ho hk
  have hsz : Maps.size D = L.length := by rw [← keys_size, ← hp.length_eq]; simp
  have HG := hide h
  refine (callsIn_wide (n := 6)).1 ?_
  have hseq : SeqGives Fence.wide 2 Tryz.prog 64 #[.pointer (some ⟨w.heap.size, 0, none⟩)] encZ (fun ss => ss.Perm (intKeys D)) (Maps.size D) (w.alloc (.cells #[.map (some m)] 84)) :=
    AnyZI.keys_gives (ρ := Tryz.keysA_ren) { Tryz.keysA with } Fence.wide _ trivial rfl (by omega) w.heap.size m (Maps.size D) D _ (by simp) (by simp) (by
      obtain ⟨es, clock, hb, Ft, hs, hD⟩ := ho
      exact ⟨es, clock, (Below.heap_alloc _ _ m hbl).trans hb, Ft, hs, hD⟩)
  have cK : ∀ mb W, CallsIn Fence.wide 5 Tryz.prog 44 #[.map mb] W fun e w' => e = .returned (.func (.func 64) #[] #[.pointer (some ⟨W.heap.size, 0, none⟩)]) ∧ w' = W.alloc (.cells #[.map mb] 84) := fun mb W => AnyZI.keys_in Tryz.keysA Fence.wide 5 trivial rfl mb W
  have cA : CallsIn Fence.wide 5 Tryz.prog 36 #[ptr p] w fun e w' => e = .returned (.map (some m)) ∧ w = w' := callsIn_wide.2 (all_g h)
  have cS := AnyZI.sorted_in Tryz.sortedA Fence.wide 5 trivial trivial trivial trivial rfl (by omega) (sortsA _) (enters_of Tryz.func63 (by kernel_rfl) rfl) 64 #[.pointer (some ⟨w.heap.size, 0, none⟩)] trivial (enters_of Tryz.func64 (by kernel_rfl) rfl) _ _ (by rw [hsz]; unfold maxLen; omega) (by rw [hsz]; omega) _ hseq
  clear h hseq ho hk
  change CallsIn _ _ Tryz.prog 43 _ _ _ at cS
  have hfK : Fence.wide.fn 44 := trivial
  have hfS : Fence.wide.fn 43 := trivial
  have hfA : Fence.wide.fn 36 := trivial
  refine callsIn_of_wp Tryz.func15 rfl trivial ?_ rfl
  simp only [Tryz.ntmps15, List.size_toArray, List.length_cons, List.length_nil, Nat.reduceAdd, Nat.reduceSub, Array.replicate_succ, Array.replicate_zero, List.push_toArray, List.append_toArray, List.nil_append, List.cons_append]
  gi_wp2_with (first
    | (gi_at_call 36; refine cA.mono ?_; rintro e w' ⟨rfl, rfl⟩)
    | (gi_at_call 44; refine (cK _ _).mono ?_; rintro e w' ⟨rfl, rfl⟩)
    | (gi_at_call 43; refine cS.mono ?_; rintro e w' ⟨v, ss, rfl, hS, hrow, hnil, hb⟩))
  go_ret
  have hpp := hS.trans hp.symm
  have hln : ss.length = L.length := by rw [hpp.length_eq]; simp
  have hsr := sort_of hpp (List.pairwise_map.2 HG.out.srt)
  rw [hsr, hln] at hrow
  exact ⟨v, rfl, ownsRow_base_a hrow (by simp), (Grow.box _ _).trans (Chg.of_b hb)⟩
end
end Go.Proofs.YtjfpjnhlnoiekaaGreat.L9
/- Ranges over a map of nodes: what is still to come, what the map says; the laws at the operations. Conditions: none. -/
namespace Go.Proofs.YtjfpjnhlnoiekaaGreat.L9
open Go.ChangeShapes Go.WideShapes Go.ChangeAt Go.RowKit Go.Maps
set_option linter.unusedVariables false

/-- A range over the map in block m is under way, its iterator is block r; left: who is still to come. -/
def Rg (w : World) (m r : Nat) (f : Int → Option Nat) (left : Int → Bool) (cnt : Nat) : Prop :=
  ∃ (D : DataW Unit) (n : Nat) (lf : Lit → Bool), w.ranges Tryz.prog 3 ptrE m r n D lf cnt ∧ Says D f ∧ ∀ x : Int, lf (.int .i64 x) = left x
section
variable {w w' : World} {m r : Nat} {f : Int → Option Nat} {left : Int → Bool} {cnt : Nat} {C : Nat → Prop}
theorem Rg.mn (h : Rg w m r f left cnt) : Mn w m f := by
  obtain ⟨D, n, lf, h1, h2, h3⟩ := h
  exact ⟨D, owns_size h1.owns, h2⟩
theorem Rg.left_eq (h : Rg w m r f left cnt) : w.rangeLeft m r = cnt := by
  obtain ⟨D, n, lf, h1, h2, h3⟩ := h
  exact h1.left_eq
theorem Rg.ne (h : Rg w m r f left cnt) : r ≠ m := by
  obtain ⟨D, n, lf, h1, h2, h3⟩ := h
  exact h1.ne
theorem Rg.lt (h : Rg w m r f left cnt) : r < w.heap.size := by
  obtain ⟨D, n, lf, h1, h2, h3⟩ := h
  exact h1.lt
theorem Rg.chg (h : Rg w m r f left cnt) (c : Chg C w w') (hm : ¬ C m) (hr : ¬ C r) : Rg w' m r f left cnt := by
  have l1 := h.mn.lt
  have l2 := h.lt
  obtain ⟨D, n, lf, ⟨es, clock, since, seen, c0, hb, F, hs, hD, hr', rest⟩, h2, h3⟩ := h
  exact ⟨D, n, lf, ⟨es, clock, since, seen, c0, (c.block m l1 hm).trans hb, F, hs, hD, (c.block r l2 hr).trans hr', rest⟩, h2, h3⟩
theorem Rg.grow (h : Rg w m r f left cnt) (c : Grow w w') : Rg w' m r f left cnt := h.chg c id id
theorem strikes (y x : Int) : (Lit.int .i64 y).sameKey (.int .i64 x) = decide (y = x) := by
  by_cases e : y = x
  · subst e
    rw [WideAt.sameKey_self (keyL _)]
    simp
  · rw [sameKey_ne (fun h => e (by injection h))]
    simp [e]
variable {ops : Array Oper} {rest : List Oper} {o : Oper} {a : Act} {Q : Exit → Act → World → Prop}
/-- 'range m'. -/
theorem rg_range (hg : o.guard = none) (mo : Operand) (hop : o.op = Op.range 84 mo) (hm : a.eval mo = .map (some m)) (h : Mn w m f)
    (hK : ∀ w' cnt, Rg w' m w.heap.size f (fun x => (f x).isSome) cnt → Grow w w' → w'.heap.size = w.heap.size + 1 → wpList Tryz.prog ops Q rest (a.put o.dst (.pointer (some ⟨w.heap.size, 0, none⟩))) w') :
    wpList Tryz.prog ops Q (o :: rest) a w := by
  obtain ⟨D, ho, hs⟩ := h
  refine wpList_range_own w hg mo _ hop _ _ keyI Tryz.underlying84 ptrE m (size D) D hm ho fun w' hr hgr hsz => ?_
  refine hK w' _ ⟨D, _, _, hr, hs, fun x => ?_⟩ ⟨hgr.os, hgr.tape, hgr.output, hgr.size, fun i hi _ => hgr.block i hi (by simp)⟩ hsz
  cases hf : f x with
  | none => rw [(hs x).2 hf]; simp [hf]
  | some b => rw [((hs x).1 b hf).1]; simp [hf]
set_option maxRecDepth 100000 in
/-- The step. -/
theorem rg_next (hg : o.guard = none) (it : Operand) (hop : o.op = Op.next it false) (hit : a.eval it = .pointer (some ⟨r, 0, none⟩)) (h : Rg w m r f left cnt)
    (hDone : (∀ x, left x = false) → wpList Tryz.prog ops Q rest (a.put o.dst (.tuple #[.bool false])) w)
    (hMore : ∀ (x : Int) (b : Nat) (w' : World) (cnt' : Nat), In64 x → left x = true → f x = some b → Rg w' m r f (fun y => left y && !decide (y = x)) cnt' → cnt' < cnt → Chg (· = r) w w' → w'.heap.size = w.heap.size →
      (Instr.entry (.pointer (some ⟨r, 0, none⟩))).run Tryz.prog w' = .ok (.tuple #[.int .i64 x, .pointer (some ⟨b, 0, none⟩)]) w' → wpList Tryz.prog ops Q rest (a.put o.dst (.tuple #[.bool true, .int .i64 x, .pointer (some ⟨b, 0, none⟩)])) w') :
    wpList Tryz.prog ops Q (o :: rest) a w := by
  obtain ⟨D, n, lf, h1, h2, h3⟩ := h
  refine wpList_next_ranges w hg it hop _ keyI ptrE (Value.int .i64) (fun b : Nat => .pointer (some ⟨b, 0, none⟩)) (fun key kl hk => ?_) (fun v y hv => ?_) m r n D lf cnt hit h1 (fun _ hl => hDone fun x => by rw [← h3, hl]) ?_
  · obtain ⟨x, e, _⟩ := Maps.keyOf_int_inv Tryz.underlying3 hk
    exact ⟨x, e⟩
  · obtain ⟨b, e, _⟩ := ptrE_inv hv
    exact ⟨b, e⟩
  · intro x b kl y w' cnt' hk hl hR hat hr hlt hgr hsz hen
    obtain ⟨x', e, rfl, hx⟩ := Maps.keyOf_int_inv Tryz.underlying3 hk
    injection e with _ e
    subst e
    obtain ⟨b', e', rfl⟩ := ptrE_inv hR
    have hb' : b = b' := by injection e' with e'; injection e' with e'; injection e'
    subst hb'
    refine hMore x b w' cnt' hx (by rw [← h3]; exact hl) ?_ ⟨D, n, _, hr, h2, fun z => by rw [strikes, h3]⟩ hlt ⟨hgr.os, hgr.tape, hgr.output, hgr.size, fun i hi hne => hgr.block i hi (fun e => hne (by injection e))⟩ hsz hen
    cases hf : f x with
    | none =>
      have h4 := atKey_of_not_has ((h2 x).2 hf) (.agg [])
      rw [hat] at h4
      exact absurd h4 (by simp)
    | some b2 =>
      have h4 := ((h2 x).1 b2 hf).2 (.agg [])
      rw [hat] at h4
      have : b = b2 := by
        simp at h4
        exact Int.ofNat.inj h4
      rw [this]
set_option maxRecDepth 100000 in
/-- A delete in the round. -/
theorem rg_del (hg : o.guard = none) (mo xo : Operand) (hop : o.op = Op.call { callee := Callee.builtin Builtin.delete, args := #[mo, xo], argTypes := #[84, 3] }) (hm : a.eval mo = .map (some m)) {x : Int} (hx : a.eval xo = .int .i64 x) (hxi : In64 x) (h : Rg w m r f left cnt)
    (hK : ∀ w' cnt', Rg w' m r (fun y => if y = x then none else f y) (fun y => left y && !decide (y = x)) cnt' → cnt' ≤ cnt → Chg (· = m) w w' → wpList Tryz.prog ops Q rest (a.put o.dst (.tuple #[])) w') :
    wpList Tryz.prog ops Q (o :: rest) a w := by
  obtain ⟨D, n, lf, h1, h2, h3⟩ := h
  refine wpList_delete_ranges w hg mo xo _ _ hop _ keyI Tryz.underlying84 ptrE m r n D lf cnt hm h1 _ _ hx (keyOf_int_mk Tryz.underlying3 hxi) fun w' cnt' hr hle ht => ?_
  have hgr := ht.grown
  exact hK w' cnt' ⟨_, n, _, hr, h2.del x, fun z => by rw [strikes, h3]⟩ hle ⟨hgr.os, hgr.tape, hgr.output, hgr.size, fun i hi hne => hgr.block i hi (fun e => hne (by injection e))⟩
end
end Go.Proofs.YtjfpjnhlnoiekaaGreat.L9
/- Graphs: what the reading calls answer, as plain functions of the list of nodes. Conditions: none; nothing here speaks of the program. -/
namespace Go.Proofs.YtjfpjnhlnoiekaaGreat.L9
open Go.ChangeShapes Go.WideShapes Go.ChangeAt Go.RowKit Go.Maps
open Go.Proofs.YtjfpjnhlnoiekaaGreat.L5 (Cl clV rtB Tb clAt shX shR shD woV hoB IsCls newX isRf)
set_option linter.unusedVariables false

/-- The kind of a class; is it a reference class? -/
def kd (o : Option Cl) : Int := match o with
  | none => 0
  | some c => c.k
/-- What a node holds, where it aims. -/
def hld (r : Bool) (l : List Int) : List Int := (if r then l.drop 1 else l).filter fun x => decide (x ≠ 0)
def hldX (cs : List Cl) (L : List Nd) (i : Int) : List Int := match nd L i with
  | none => []
  | some x => hld (isRf (kd (clAt cs x.c))) x.refs
def aimX (cs : List Cl) (L : List Nd) (i : Int) : Int × Int := match nd L i with
  | none => (0, 0)
  | some x => if isRf (kd (clAt cs x.c)) then (x.refs.getD 0 0, kd (clAt cs x.c)) else (0, 0)
def wos (L : List Nd) : Nat := (L.map Nd.wo).sum
theorem hld_step (r : Bool) (l : List Int) (k : Nat) (hk : k < l.length) : hld r (l.take (k + 1)) = hld r (l.take k) ++ (if (decide (0 < k) || !r) && decide (l.getD k 0 ≠ 0) then [l.getD k 0] else []) := by
  have e : l.take (k + 1) = l.take k ++ [l.getD k 0] := by
    rw [List.take_add_one, List.getElem?_eq_getElem hk, List.getD_eq_getElem?_getD, List.getElem?_eq_getElem hk]
    rfl
  have hl : (l.take k).length = k := by simp; omega
  unfold hld
  rw [e]
  obtain ⟨q, hq⟩ : ∃ q, l.getD k 0 = q := ⟨_, rfl⟩
  rw [hq] at e ⊢
  cases r with
  | false => by_cases h0 : q = 0 <;> simp [h0]
  | true =>
    rcases Nat.eq_zero_or_pos k with rfl | hp
    · simp
    · have : List.drop 1 (l.take k ++ [q]) = List.drop 1 (l.take k) ++ [q] := List.drop_append_of_le_length (by omega)
      simp only [if_true, this]
      by_cases h0 : q = 0 <;> simp [h0, hp]
theorem hld_len (r : Bool) (l : List Int) : (hld r l).length ≤ l.length := by
  unfold hld
  refine Nat.le_trans (List.length_filter_le _ _) ?_
  cases r <;> simp
/-- The words of those that have come: one more. -/
theorem wos_step {L : List Nd} (hs : Srt L) {p : Int → Bool} {x : Nd} (hx : x ∈ L) (hp : p x.id = false) : wos (L.filter fun y => p y.id || decide (y.id = x.id)) = wos (L.filter fun y => p y.id) + x.wo := by
  unfold wos
  induction L with
  | nil => cases hx
  | cons a l ih =>
    obtain ⟨h1, h2⟩ := List.pairwise_cons.1 hs
    rcases List.mem_cons.1 hx with rfl | hx'
    · have e : (l.filter fun y => p y.id || decide (y.id = x.id)) = l.filter fun y => p y.id := by
        refine List.filter_congr fun y hy => ?_
        have := h1 y hy
        have : ¬ y.id = x.id := by omega
        simp [this]
      simp only [List.filter_cons, hp, Bool.false_or, decide_true, if_true, e]
      simp [Nat.add_comm]
    · have hne : ¬ a.id = x.id := by have := h1 x hx'; omega
      simp only [List.filter_cons, hne, decide_false, Bool.or_false]
      have := ih h2 hx'
      split
      · simp only [List.map_cons, List.sum_cons, this]; omega
      · exact this
theorem wos_le {cs : List Cl} {L : List Nd} (h : ∀ x ∈ L, x.Ok cs) : wos L ≤ 62 * L.length := by
  unfold wos
  induction L with
  | nil => simp
  | cons a l ih =>
    have h1 := ih fun x hx => h x (List.mem_cons_of_mem _ hx)
    have h2 := (h a List.mem_cons_self).rl
    have h3 := (h a List.mem_cons_self).dl
    simp only [List.map_cons, List.sum_cons, List.length_cons]
    have : a.wo = 2 + a.refs.length + a.data.length := rfl
    omega
theorem len_step {L : List Nd} (hs : Srt L) {p : Int → Bool} {x : Nd} (hx : x ∈ L) (hp : p x.id = false) : (L.filter fun y => p y.id || decide (y.id = x.id)).length = (L.filter fun y => p y.id).length + 1 := by
  induction L with
  | nil => cases hx
  | cons a l ih =>
    obtain ⟨h1, h2⟩ := List.pairwise_cons.1 hs
    rcases List.mem_cons.1 hx with rfl | hx'
    · have e : (l.filter fun y => p y.id || decide (y.id = x.id)) = l.filter fun y => p y.id := by
        refine List.filter_congr fun y hy => ?_
        have := h1 y hy
        have : ¬ y.id = x.id := by omega
        simp [this]
      simp only [List.filter_cons, hp, Bool.false_or, decide_true, if_true, e]
      simp
    · have hne : ¬ a.id = x.id := by have := h1 x hx'; omega
      simp only [List.filter_cons, hne, decide_false, Bool.or_false]
      have := ih h2 hx'
      split
      · simp only [List.length_cons, this]
      · exact this
end Go.Proofs.YtjfpjnhlnoiekaaGreat.L9
/- Graphs: Words: the sum over all nodes. Conditions: a graph has fewer than 1000000 nodes. -/
namespace Go.Proofs.YtjfpjnhlnoiekaaGreat.L9
open Go.ChangeShapes Go.WideShapes Go.ChangeAt Go.RowKit Go.Maps
open Go.Proofs.YtjfpjnhlnoiekaaGreat.L5 (Cl clV rtB Tb clAt shX shR shD woV hoB IsCls newX isRf)
set_option linter.unusedVariables false
section
variable {w : World} {z p m tb : Nat} {S : Nat → Prop} {f : Int → Option Nat} {ow : Nat → Int} {cs : List Cl} {L : List Nd}
/-- Who has come. -/
def came (left : Int → Bool) (y : Nd) : Bool := !left y.id
theorem came_start (h : Gr w z S p m tb f ow cs L) : L.filter (came fun x => (f x).isSome) = [] := by
  refine List.filter_eq_nil_iff.2 fun y hy => ?_
  obtain ⟨b, hb, _⟩ := h.nds y hy
  simp [came, hb]
theorem came_end {left : Int → Bool} (hl : ∀ x, left x = false) : L.filter (came left) = L := List.filter_eq_self.2 fun y _ => by simp [came, hl]
theorem came_step (left : Int → Bool) (x : Int) : came (fun y => left y && !decide (y = x)) = fun y => came left y || decide (y.id = x) := by
  funext y
  unfold came
  by_cases e : y.id = x <;> cases hl : left y.id <;> simp [e, hl]
theorem wos_came (h : Gr w z S p m tb f ow cs L) {left : Int → Bool} {x : Nd} (hx : x ∈ L) (hp : left x.id = true) : wos (L.filter (came fun y => left y && !decide (y = x.id))) = wos (L.filter (came left)) + x.wo := by
  rw [came_step]
  exact wos_step h.srt (p := fun i => !left i) hx (by simp [hp])
theorem wos_bd (h : Gr w z S p m tb f ow cs L) (left : Int → Bool) : wos (L.filter (came left)) ≤ 62 * L.length := by
  refine Nat.le_trans (wos_le (cs := cs) fun x hx => h.ok x (List.mem_filter.1 hx).1) ?_
  have := List.length_filter_le (came left) L
  omega
end
end Go.Proofs.YtjfpjnhlnoiekaaGreat.L9
/- Graphs: Node, Aim: what they answer. Conditions: the number fits an int. -/
namespace Go.Proofs.YtjfpjnhlnoiekaaGreat.L9
open Go.ChangeShapes Go.WideShapes Go.ChangeAt Go.RowKit Go.Maps
open Go.Proofs.YtjfpjnhlnoiekaaGreat.L5 (Cl clV rtB Tb clAt shX shR shD woV hoB IsCls newX isRf)
set_option linter.unusedVariables false
theorem Tryz.infoI : (Tryz.prog.info? 3).map (fun i => (i.zero, i.size, i.bytes)) = some (some (.int .i64 0), 1, 8) := by kernel_rfl
theorem own_base {w : World} {base base' : Nat} {e : TypeId} {size : Nat} {v : Value} {n : Nat} {xs : List Value} (h : w.ownsRow base e size v n xs) (hb : base' ≤ base) : w.ownsRow base' e size v n xs := by
  obtain ⟨h1, h2⟩ := h
  refine ⟨h1, ?_⟩
  rcases h2 with h2 | ⟨g, cap, cur, rfl, hge, r⟩
  · exact .inl h2
  · exact .inr ⟨g, cap, cur, rfl, Nat.le_trans hb hge, r⟩
set_option maxHeartbeats 1000000 in
/-- slices.Clone of a list of numbers. -/
theorem cloneI {w : World} {b : Nat} {xs : List Int} (h : Blk w b 3 (ints xs)) (hl : xs.length ≤ 1000000) :
    Calls Tryz.prog 37 #[.slice (some ⟨b, 0, none⟩) xs.length xs.length] w fun e w' => ∃ a cap, e = .returned (.slice a xs.length cap) ∧ w'.ownsRow w.heap.size 3 1 (.slice a xs.length cap) xs.length (ints xs) ∧ Grow w w' := by
  have q : ∀ (w : World) (a : Option Addr) (n c n' c' : Nat), (binOp .eql 27 (.slice a n c) (.slice none n' c')).run Tryz.prog w = .ok (.bool a.isNone) w := fun w a n c n' c' => Lib.run_eql_slice_nil w _ _ a n c n' c' Tryz.underlying27
  obtain ⟨i0, hi0, hz0, hz1, hz2⟩ := info_parts Tryz.infoI
  have HI := hide hi0
  have HZ0 := hide hz0
  have HZ1 := hide hz1
  have HZ2 := hide hz2
  have H := hide h
  clear hi0 hz0 hz1 hz2 h
  have HO := hide (World.ownsRow_lit (e := 3) (size := 1) (base := w.heap.size) w #[] 0 (Nat.le_refl _) (by simp [maxLen]) rfl)
  have HX := hide (ints_length xs)
  generalize xs.length = n at *
  go_enter Tryz.func37, Tryz.ntmps37
  go_wp2_with (at_builtin; refine wpList_append_own _ rfl _ _ 27 rfl w.heap.size 3 i0 (.int .i64 0) 1 8 Tryz.underlying27 HI.out HZ0.out HZ1.out HZ2.out rfl (by decide) _ _ _ rfl HO.out ⟨b, 0, none⟩ n n (ints xs) rfl ?q0 ?c1 ?c2 ?c3 ?c4 ?c5 ?_)
  case q0 => rw [HX.out]
  case c1 => intro j u hj; refine Grow.cell (Grow.box _ _) ?_; rw [H.out.cell]; exact hj
  case c2 => exact ints_one xs
  case c3 => unfold maxLen; omega
  case c4 => omega
  intro v' w3 hown3 hgrow _
  have c3 := Chg.grownOwn (Grow.box w (.cells [].toArray 3)) HO.out (Nat.le_refl _) hgrow
  obtain ⟨a, cap, rfl⟩ := own_len hown3
  have HO3 := hide hown3
  clear hown3 hgrow HO
  go_wp2
  go_ret
  exact ⟨_, _, rfl, HO3.out, c3⟩
section
variable {w : World} {z p m tb : Nat} {S : Nat → Prop} {f : Int → Option Nat} {ow : Nat → Int} {cs : List Cl} {L : List Nd} {x : Nd} {i : Int}
/-- The node that is told where there is none. -/
abbrev noNd : List Value := [.int .i64 0, .int .i64 0, .slice none 0 0, .slice none 0 0, .bool false]
set_option maxRecDepth 100000 in
set_option maxHeartbeats 1000000 in
theorem node_none (h : Gr w z S p m tb f ow cs L) (hi : In64 i) (hn : nd L i = none) :
    Calls Tryz.prog 11 #[ptr p, .int .i64 i] w fun e w' => e = .returned (.tuple #[.agg #[.int .i64 0, .int .i64 0, .slice none 0 0, .slice none 0 0, .bool false], .int .i64 7]) ∧ Grow w w' := by
  have g0 := Grow.box w (.cells noNd.toArray 38)
  have HG := hide (h.grow g0)
  have hl := look_none HG.out hi hn
  clear h
  go_enter Tryz.func11, Tryz.ntmps11
  go_wp2_with fail
  refine (all_g HG.out).mono ?_
  rintro e w' ⟨rfl, rfl⟩
  go_wp2
  go_returns
  exact ⟨rfl, g0⟩
set_option maxRecDepth 100000 in
set_option maxHeartbeats 1000000 in
theorem node_some (h : Gr w z S p m tb f ow cs L) (hi : In64 i) (hn : nd L i = some x) :
    Calls Tryz.prog 11 #[ptr p, .int .i64 i] w fun e w' => ∃ ar cr ad cd, e = .returned (.tuple #[.agg #[.int .i64 x.id, .int .i64 x.c, .slice ar x.refs.length cr, .slice ad x.data.length cd, .bool x.fin], .int .i64 0]) ∧
      w'.ownsRow w.heap.size 3 1 (.slice ar x.refs.length cr) x.refs.length (ints x.refs) ∧ w'.ownsRow w.heap.size 3 1 (.slice ad x.data.length cd) x.data.length (ints x.data) ∧
        (∀ k, (Value.slice ar x.refs.length cr).ownBlock = some k → (Value.slice ad x.data.length cd).ownBlock ≠ some k) ∧ Grow w w' := by
  have g0 := Grow.box w (.cells noNd.toArray 38)
  have h0 := Blk.new w 38 noNd
  have HG := hide (h.grow g0)
  obtain ⟨b, br, bd, hb, hl, hx⟩ := look_some HG.out hi hn
  have HO := hide (h.ok x (nd_some hn).1)
  obtain ⟨c0, c1, c2, c3, c4, c5⟩ := hx.cells
  obtain ⟨e4, e7, gB, F4, F7, hne⟩ := boxes2 w 38 noNd 38 [.int .i64 x.id, .int .i64 x.c, .slice (some ⟨br, 0, none⟩) x.refs.length x.refs.length, .slice (some ⟨bd, 0, none⟩) x.data.length x.data.length, .bool x.fin]
  have hbl : b < w.heap.size ∧ br < w.heap.size ∧ bd < w.heap.size := ⟨(h.s b hx.2.2.2.2.2.1).2, (h.s br hx.2.2.2.2.2.2.1).2, (h.s bd hx.2.2.2.2.2.2.2).2⟩
  have hxb := hx.1.alloc (.cells [.int .i64 x.id, .int .i64 x.c, .slice (some ⟨br, 0, none⟩) x.refs.length x.refs.length, .slice (some ⟨bd, 0, none⟩) x.data.length x.data.length, .bool x.fin].toArray 38)
  have hxr := hx.2.1.alloc (.cells [.int .i64 x.id, .int .i64 x.c, .slice (some ⟨br, 0, none⟩) x.refs.length x.refs.length, .slice (some ⟨bd, 0, none⟩) x.data.length x.data.length, .bool x.fin].toArray 38)
  have hxd := hx.2.2.1.alloc (.cells [.int .i64 x.id, .int .i64 x.c, .slice (some ⟨br, 0, none⟩) x.refs.length x.refs.length, .slice (some ⟨bd, 0, none⟩) x.data.length x.data.length, .bool x.fin].toArray 38)
  have hrl := HO.out.rl
  have hdl := HO.out.dl
  have HCR := hide (fun W (hS : (W.cell? ⟨b, 2, none⟩ = some (.slice (some ⟨br, 0, none⟩) x.refs.length x.refs.length) ∧ W.cell? ⟨b, 3, none⟩ = some (.slice (some ⟨bd, 0, none⟩) x.data.length x.data.length) ∧ Blk W br 3 (ints x.refs) ∧ Blk W bd 3 (ints x.data))) => cloneI (w := W) (b := br) (xs := x.refs) hS.2.2.1 (by omega))
  have HCD := hide (fun W (hS : (W.cell? ⟨b, 2, none⟩ = some (.slice (some ⟨br, 0, none⟩) x.refs.length x.refs.length) ∧ W.cell? ⟨b, 3, none⟩ = some (.slice (some ⟨bd, 0, none⟩) x.data.length x.data.length) ∧ Blk W br 3 (ints x.refs) ∧ Blk W bd 3 (ints x.data))) => cloneI (w := W) (b := bd) (xs := x.data) hS.2.2.2 (by omega))
  have HKS := hide (fun W W' (c : Grow W W') (hS : (W.cell? ⟨b, 2, none⟩ = some (.slice (some ⟨br, 0, none⟩) x.refs.length x.refs.length) ∧ W.cell? ⟨b, 3, none⟩ = some (.slice (some ⟨bd, 0, none⟩) x.data.length x.data.length) ∧ Blk W br 3 (ints x.refs) ∧ Blk W bd 3 (ints x.data))) => (show (W'.cell? ⟨b, 2, none⟩ = some (.slice (some ⟨br, 0, none⟩) x.refs.length x.refs.length) ∧ W'.cell? ⟨b, 3, none⟩ = some (.slice (some ⟨bd, 0, none⟩) x.data.length x.data.length) ∧ Blk W' br 3 (ints x.refs) ∧ Blk W' bd 3 (ints x.data)) by
    exact ⟨Grow.cell c hS.1, Grow.cell c hS.2.1, hS.2.2.1.chg c id, hS.2.2.2.chg c id⟩))
  have HKT := hide (fun W (j : Nat) u (hS : (W.cell? ⟨b, 2, none⟩ = some (.slice (some ⟨br, 0, none⟩) x.refs.length x.refs.length) ∧ W.cell? ⟨b, 3, none⟩ = some (.slice (some ⟨bd, 0, none⟩) x.data.length x.data.length) ∧ Blk W br 3 (ints x.refs) ∧ Blk W bd 3 (ints x.data))) => (show ((W.setCell ⟨w.heap.size + 1, j, none⟩ u).cell? ⟨b, 2, none⟩ = some (.slice (some ⟨br, 0, none⟩) x.refs.length x.refs.length) ∧ (W.setCell ⟨w.heap.size + 1, j, none⟩ u).cell? ⟨b, 3, none⟩ = some (.slice (some ⟨bd, 0, none⟩) x.data.length x.data.length) ∧ Blk (W.setCell ⟨w.heap.size + 1, j, none⟩ u) br 3 (ints x.refs) ∧ Blk (W.setCell ⟨w.heap.size + 1, j, none⟩ u) bd 3 (ints x.data)) by
    refine ⟨?_, ?_, hS.2.2.1.far (by show br ≠ w.heap.size + 1; omega) _, hS.2.2.2.far (by show bd ≠ w.heap.size + 1; omega) _⟩
    · exact Chg.cell (S := (· = w.heap.size + 1)) ((Chg.refl _ _).set1 _ _) hS.1 (by show ¬ b = w.heap.size + 1; omega)
    · exact Chg.cell (S := (· = w.heap.size + 1)) ((Chg.refl _ _).set1 _ _) hS.2.1 (by show ¬ b = w.heap.size + 1; omega)))
  clear h hbl hx hrl hdl
  go_enter Tryz.func11, Tryz.ntmps11
  go_wp2_with fail
  refine (all_g HG.out).mono ?_
  rintro e w' ⟨rfl, rfl⟩
  go_wp2_with fail
  generalize (w.alloc (.cells noNd.toArray 38)).alloc (.cells #[.int .i64 x.id, .int .i64 x.c, .slice (some ⟨br, 0, none⟩) x.refs.length x.refs.length, .slice (some ⟨bd, 0, none⟩) x.data.length x.data.length, .bool x.fin] 38) = w2 at *
  have hs0 : (w2.cell? ⟨b, 2, none⟩ = some (.slice (some ⟨br, 0, none⟩) x.refs.length x.refs.length) ∧ w2.cell? ⟨b, 3, none⟩ = some (.slice (some ⟨bd, 0, none⟩) x.data.length x.data.length) ∧ Blk w2 br 3 (ints x.refs) ∧ Blk w2 bd 3 (ints x.data)) := ⟨hxb.cell 2, hxb.cell 3, hxr, hxd⟩
  have HSZ := hide (show w.heap.size + 1 < w2.heap.size from e7.lt)
  clear c0 c1 c2 c3 c4 c5 h0 g0 F4 F7 hxb hxr hxd HG hl HO hb hi hn hne
  go_region_held3 (fun W => W.cell? ⟨b, 2, none⟩ = some (.slice (some ⟨br, 0, none⟩) x.refs.length x.refs.length) ∧ W.cell? ⟨b, 3, none⟩ = some (.slice (some ⟨bd, 0, none⟩) x.data.length x.data.length) ∧ Blk W br 3 (ints x.refs) ∧ Blk W bd 3 (ints x.data)) (first | assumption | (refine HKS.out _ _ ?_ (by assumption); assumption) | (refine HKT.out _ _ _ ?_; assumption)) (first
    | (go_at_call 37; refine (HCR.out _ (by assumption)).mono ?_; rintro e w5 ⟨ar, cr, rfl, hor, g5⟩; (first | replace e7 := e7.chg g5 id | replace e7 := e7.drew.chg g5 id))
    | (go_at_call 37; refine (HCD.out _ (by assumption)).mono ?_; rintro e w6 ⟨ad, cd, rfl, hod, g6⟩; (first | replace e7 := e7.chg g6 id | replace e7 := e7.drew.chg g6 id); (have y2 : w6.cell? ⟨w.heap.size + 1, 2, none⟩ = some (.slice (some ⟨br, 0, none⟩) x.refs.length x.refs.length) := e7.cell 2); have z2 := e7.frozen 2; (have y3 : (w6.setCell ⟨w.heap.size + 1, 2, none⟩ (.slice ar x.refs.length cr)).cell? ⟨w.heap.size + 1, 3, none⟩ = some (.slice (some ⟨bd, 0, none⟩) x.data.length x.data.length) := (e7.set_ 2 (.slice ar x.refs.length cr)).cell 3); have z3 := (e7.set_ 2 (.slice ar x.refs.length cr)).frozen 3))
  have e7' := (e7.set_ 2 (.slice ar x.refs.length cr)).set_ 3 (.slice ad x.data.length cd)
  have e4' := (((e4.drew.chg g5 id).chg g6 id).far (p := ⟨w.heap.size + 1, 2, none⟩) (by show w.heap.size ≠ w.heap.size + 1; omega) (.slice ar x.refs.length cr)).far (p := ⟨w.heap.size + 1, 3, none⟩) (by show w.heap.size ≠ w.heap.size + 1; omega) (.slice ad x.data.length cd)
  have c7 : Chg (fun k => k = w.heap.size ∨ k = w.heap.size + 1) w6 ((w6.setCell ⟨w.heap.size + 1, 2, none⟩ (.slice ar x.refs.length cr)).setCell ⟨w.heap.size + 1, 3, none⟩ (.slice ad x.data.length cd)) := ((Chg.refl _ _).setCell (fun _ => .inr rfl) _).setCell (fun _ => .inr rfl) _
  have G6 := hide (And.intro (gB.drew.trans g5) g6)
  have HOR := hide (And.intro hor hod)
  have HS5 := hide (show w2.heap.size ≤ w5.heap.size from g5.size)
  clear e7 e4 y2 z2 y3 z3 hs0 HCR HCD HKS HKT g5 g6 hor hod gB
  generalize (w6.setCell ⟨w.heap.size + 1, 2, none⟩ (.slice ar x.refs.length cr)).setCell ⟨w.heap.size + 1, 3, none⟩ (.slice ad x.data.length cd) = w7 at e7' e4' c7 ⊢
  have x0 : w7.cell? ⟨w.heap.size + 1, 0, none⟩ = some (.int .i64 x.id) := e7'.cell 0
  have x1 : w7.cell? ⟨w.heap.size + 1, 1, none⟩ = some (.int .i64 x.c) := e7'.cell 1
  have x2 : w7.cell? ⟨w.heap.size + 1, 2, none⟩ = some (.slice ar x.refs.length cr) := e7'.cell 2
  have x3 : w7.cell? ⟨w.heap.size + 1, 3, none⟩ = some (.slice ad x.data.length cd) := e7'.cell 3
  have x4 : w7.cell? ⟨w.heap.size + 1, 4, none⟩ = some (.bool x.fin) := e7'.cell 4
  have y0 : w7.cell? ⟨w.heap.size, 0, none⟩ = some (.int .i64 0) := e4'.cell 0
  have y1 : w7.cell? ⟨w.heap.size, 1, none⟩ = some (.int .i64 0) := e4'.cell 1
  have y2 : w7.cell? ⟨w.heap.size, 2, none⟩ = some (.slice none 0 0) := e4'.cell 2
  have y3 : w7.cell? ⟨w.heap.size, 3, none⟩ = some (.slice none 0 0) := e4'.cell 3
  have y4 : w7.cell? ⟨w.heap.size, 4, none⟩ = some (.bool false) := e4'.cell 4
  have z0 := e4'.frozen 0
  have z1 := e4'.frozen 1
  have z2 := e4'.frozen 2
  have z3 := e4'.frozen 3
  have z4 := e4'.frozen 4
  go_wp2
  have e8 := ((((e4'.set_ 0 (.int .i64 x.id)).set_ 1 (.int .i64 x.c)).set_ 2 (.slice ar x.refs.length cr)).set_ 3 (.slice ad x.data.length cd)).set_ 4 (.bool x.fin)
  have c8 : Chg (fun k => k = w.heap.size ∨ k = w.heap.size + 1) w6 (((((w7.setCell ⟨w.heap.size, 0, none⟩ (.int .i64 x.id)).setCell ⟨w.heap.size, 1, none⟩ (.int .i64 x.c)).setCell ⟨w.heap.size, 2, none⟩ (.slice ar x.refs.length cr)).setCell ⟨w.heap.size, 3, none⟩ (.slice ad x.data.length cd)).setCell ⟨w.heap.size, 4, none⟩ (.bool x.fin)) := ((((c7.setCell (fun _ => .inl rfl) _).setCell (fun _ => .inl rfl) _).setCell (fun _ => .inl rfl) _).setCell (fun _ => .inl rfl) _).setCell (fun _ => .inl rfl) _
  clear x0 x1 x2 x3 x4 y0 y1 y2 y3 y4 z0 z1 z2 z3 z4 e7' e4' c7
  generalize ((((w7.setCell ⟨w.heap.size, 0, none⟩ (.int .i64 x.id)).setCell ⟨w.heap.size, 1, none⟩ (.int .i64 x.c)).setCell ⟨w.heap.size, 2, none⟩ (.slice ar x.refs.length cr)).setCell ⟨w.heap.size, 3, none⟩ (.slice ad x.data.length cd)).setCell ⟨w.heap.size, 4, none⟩ (.bool x.fin) = w8 at e8 c8 ⊢
  have y0 : w8.cell? ⟨w.heap.size, 0, none⟩ = some (.int .i64 x.id) := e8.cell 0
  have y1 : w8.cell? ⟨w.heap.size, 1, none⟩ = some (.int .i64 x.c) := e8.cell 1
  have y2 : w8.cell? ⟨w.heap.size, 2, none⟩ = some (.slice ar x.refs.length cr) := e8.cell 2
  have y3 : w8.cell? ⟨w.heap.size, 3, none⟩ = some (.slice ad x.data.length cd) := e8.cell 3
  have y4 : w8.cell? ⟨w.heap.size, 4, none⟩ = some (.bool x.fin) := e8.cell 4
  refine bodyPost_ret (v := .tuple #[.agg #[.int .i64 x.id, .int .i64 x.c, .slice ar x.refs.length cr, .slice ad x.data.length cd, .bool x.fin], .int .i64 0]) (by simp [results, Tryz.results11, go_sem, y0, y1, y2, y3, y4]) rfl ?_
  have hs1 : w.heap.size + 1 < w2.heap.size := HSZ.out
  have hs2 : w2.heap.size ≤ w5.heap.size := HS5.out
  have r1 := HOR.out.1
  have r2 := HOR.out.2
  have l1 : ∀ k, (Value.slice ar x.refs.length cr).ownBlock = some k → w2.heap.size ≤ k ∧ k < w5.heap.size := fun k hk => r1.lt k hk
  have l2 : ∀ k, (Value.slice ad x.data.length cd).ownBlock = some k → w5.heap.size ≤ k ∧ k < w6.heap.size := fun k hk => r2.lt k hk
  refine ⟨ar, cr, ad, cd, rfl, ?_, ?_, ?_, ?_⟩
  · exact own_chg (own_grow (own_base r1 (by show w.heap.size ≤ w2.heap.size; omega)) G6.out.2) c8 fun k hk e => by have := l1 k hk; omega
  · exact own_chg (own_base r2 (by omega)) c8 fun k hk e => by have := l2 k hk; omega
  · intro k h1 h2
    have := l1 k h1
    have := l2 k h2
    omega
  · exact (G6.out.1.trans G6.out.2).step c8 fun i hi e => by omega
end
end Go.Proofs.YtjfpjnhlnoiekaaGreat.L9
/- Graphs: Aim: what it answers. Conditions: the number fits an int. -/
namespace Go.Proofs.YtjfpjnhlnoiekaaGreat.L9
open Go.ChangeShapes Go.WideShapes Go.ChangeAt Go.RowKit Go.Maps
open Go.Proofs.YtjfpjnhlnoiekaaGreat.L5 (Cl clV rtB Tb clAt shX shR shD woV hoB IsCls newX isRf)
set_option linter.unusedVariables false
section
variable {w : World} {z p m tb : Nat} {S : Nat → Prop} {f : Int → Option Nat} {ow : Nat → Int} {cs : List Cl} {L : List Nd} {x : Nd} {i : Int}
set_option maxRecDepth 100000 in
set_option maxHeartbeats 1000000 in
theorem aim_any (h : Gr w z S p m tb f ow cs L) (hi : In64 i) :
    Calls Tryz.prog 38 #[ptr p, .int .i64 i] w fun e w' => e = .returned (.tuple #[.int .i64 (aimX cs L i).1, .int .i64 (aimX cs L i).2]) ∧ Grow w w' := by
  have HG := hide h
  obtain ⟨base, v, ht⟩ := h.tb_
  have HT := hide ht
  have k0 := h.cell0
  clear ht
  cases hn : nd L i with
  | none =>
    have HX := hide (show aimX cs L i = (0, 0) by simp [aimX, hn])
    have hl := look_none h hi hn
    clear h
    go_enter Tryz.func38, Tryz.ntmps38
    go_wp2_with fail
    refine (all_g HG.out).mono ?_
    rintro e w' ⟨rfl, rfl⟩
    go_wp2_with fail
    refine wp_region_grow (by kernel_rfl) (by kernel_rfl) ?_
    repeat (
      with_reducible refine wpQuiet_step ?_
      intro K hK
      first
        | ((with_reducible refine quiet_offT rfl ?_ (hK _ ?_)); focus (refine ⟨_, rfl, ?_⟩; with_reducible rfl))
        | ((with_reducible refine quiet_offF rfl ?_ (hK _ ?_)); focus (refine ⟨_, rfl, ?_⟩; with_reducible rfl))
        | ((with_reducible refine quiet_offN rfl ?_ (hK _ ?_)); focus (exact rfl))
        | ((first | with_reducible refine quiet_free rfl ?_ | ((with_reducible refine quiet_on rfl ?_ ?_); focus (refine ⟨_, rfl, ?_⟩; with_reducible rfl)))
           apply Exists.intro
           refine ⟨fun Wq hW => ?_, hK _ ?_⟩
           focus (have q0 := Grow.cell hW k0; go_simp; first | done | with_reducible rfl))
      clear hK K
      simp only [Act.put, List.setIfInBounds_toArray, List.set_cons_zero, List.set_cons_succ])
    with_reducible refine wpQuiet_nil ?_
    intro w5 c5
    go_wp2
    go_returns
    rw [HX.out]
    exact ⟨rfl, c5⟩
  | some x =>
    obtain ⟨b, br, bd, hb, hl, hx⟩ := look_some h hi hn
    have hok := h.ok x (nd_some hn).1
    obtain ⟨c, hc, hc1⟩ := hok.cl
    obtain ⟨j, hcj, hjl, hjc⟩ := L5.clAt_some hc
    obtain ⟨x0, x1, x2, x3, x4, x5⟩ := hx.cells
    have HJ := hide (And.intro hcj hjc)
    cases hrf : isRf c.k with
    | false =>
      have HX := hide (show aimX cs L i = (0, 0) by simp [aimX, hn, hc, kd, hrf])
      have HHO := hide (fun W (hW : Grow w W) => L5.holds_is (HT.out.grow hW) HG.out.cl (n := x.c) (l := 0) (b := true) (by rw [hc]; simp [hoB, hrf]))
      clear h hok hx hc1 hb hc hcj hjc
      go_enter Tryz.func38, Tryz.ntmps38
      go_wp2_with fail
      refine (all_g HG.out).mono ?_
      rintro e w' ⟨rfl, rfl⟩
      go_wp2_with fail
      refine wp_region_grow (by kernel_rfl) (by kernel_rfl) ?_
      repeat (
        with_reducible refine wpQuiet_step ?_
        intro K hK
        first
          | ((with_reducible refine quiet_offT rfl ?_ (hK _ ?_)); focus (refine ⟨_, rfl, ?_⟩; with_reducible rfl))
          | ((with_reducible refine quiet_offF rfl ?_ (hK _ ?_)); focus (refine ⟨_, rfl, ?_⟩; with_reducible rfl))
          | ((with_reducible refine quiet_offN rfl ?_ (hK _ ?_)); focus (exact rfl))
          | ((first | with_reducible refine quiet_free rfl ?_ | ((with_reducible refine quiet_on rfl ?_ ?_); focus (refine ⟨_, rfl, ?_⟩; with_reducible rfl)))
             apply Exists.intro
             refine ⟨fun Wq hW => ?_, hK _ ?_⟩
             focus (have q0 := Grow.cell hW k0; have q1 := Grow.cell hW x1; go_simp; first | done | with_reducible rfl | (go_at_call 60; (first | with_reducible exact grown_call hW (HHO.out _ hW) | with_reducible exact grown_same hW (HHO.out _ hW)))))
        clear hK K
        simp only [Act.put, List.setIfInBounds_toArray, List.set_cons_zero, List.set_cons_succ])
      with_reducible refine wpQuiet_nil ?_
      intro w5 c5
      go_wp2
      go_returns
      rw [HX.out]
      exact ⟨rfl, c5⟩
    | true =>
      have HX := hide (show aimX cs L i = (x.refs.getD 0 0, c.k) by simp [aimX, hn, hc, kd, hrf])
      have h0 := hc1 hrf
      have y0 := hx.2.1.cell 0
      rw [ints_get _ _ h0] at y0
      obtain ⟨q, hq⟩ : ∃ q, x.refs.getD 0 0 = q := ⟨_, rfl⟩
      rw [hq] at y0 HX
      clear hq
      have HHO := hide (fun W (hW : Grow w W) => L5.holds_is (HT.out.grow hW) HG.out.cl (n := x.c) (l := 0) (b := false) (by rw [hc]; simp [hoB, hrf]))
      clear h hok hx hc1 hb hc hcj hjc
      go_enter Tryz.func38, Tryz.ntmps38
      go_wp2_with fail
      refine (all_g HG.out).mono ?_
      rintro e w' ⟨rfl, rfl⟩
      go_wp2_with fail
      refine wp_region_grow (by kernel_rfl) (by kernel_rfl) ?_
      repeat (
        with_reducible refine wpQuiet_step ?_
        intro K hK
        first
          | ((with_reducible refine quiet_offT rfl ?_ (hK _ ?_)); focus (refine ⟨_, rfl, ?_⟩; with_reducible rfl))
          | ((with_reducible refine quiet_offF rfl ?_ (hK _ ?_)); focus (refine ⟨_, rfl, ?_⟩; with_reducible rfl))
          | ((with_reducible refine quiet_offN rfl ?_ (hK _ ?_)); focus (exact rfl))
          | ((first | with_reducible refine quiet_free rfl ?_ | ((with_reducible refine quiet_on rfl ?_ ?_); focus (refine ⟨_, rfl, ?_⟩; with_reducible rfl)))
             apply Exists.intro
             refine ⟨fun Wq hW => ?_, hK _ ?_⟩
             focus (have q0 := Grow.cell hW k0; have q1 := Grow.cell hW x1; go_simp; first | done | with_reducible rfl | (go_at_call 60; (first | with_reducible exact grown_call hW (HHO.out _ hW) | with_reducible exact grown_same hW (HHO.out _ hW)))))
        clear hK K
        simp only [Act.put, List.setIfInBounds_toArray, List.set_cons_zero, List.set_cons_succ])
      with_reducible refine wpQuiet_nil ?_
      intro w5 c5
      replace k0 := Grow.cell c5 k0
      replace x1 := Grow.cell c5 x1
      replace x2 := Grow.cell c5 x2
      replace y0 := Grow.cell c5 y0
      obtain ⟨K, R, D, F⟩ := c
      have HKS := hide (fun W W' (c : Grow W W') (hS : W.cell? ⟨p, 0, none⟩ = some (.pointer (some ⟨tb, 0, none⟩)) ∧ W.cell? ⟨b, 1, none⟩ = some (.int .i64 x.c)) => (show W'.cell? ⟨p, 0, none⟩ = some (.pointer (some ⟨tb, 0, none⟩)) ∧ W'.cell? ⟨b, 1, none⟩ = some (.int .i64 x.c) from ⟨Grow.cell c hS.1, Grow.cell c hS.2⟩))
      have hpb : p < w5.heap.size ∧ b < w5.heap.size := ⟨cell_lt k0, cell_lt x1⟩
      have HKT := hide (fun (W : World) (j : Nat) (u : Value) (hS : W.cell? ⟨p, 0, none⟩ = some (.pointer (some ⟨tb, 0, none⟩)) ∧ W.cell? ⟨b, 1, none⟩ = some (.int .i64 x.c)) => (show (W.setCell ⟨w5.heap.size, j, none⟩ u).cell? ⟨p, 0, none⟩ = some (.pointer (some ⟨tb, 0, none⟩)) ∧ (W.setCell ⟨w5.heap.size, j, none⟩ u).cell? ⟨b, 1, none⟩ = some (.int .i64 x.c) from
        ⟨Chg.cell (S := (· = w5.heap.size)) ((Chg.refl _ _).set1 _ _) hS.1 (by show ¬ p = _; omega), Chg.cell (S := (· = w5.heap.size)) ((Chg.refl _ _).set1 _ _) hS.2 (by show ¬ b = _; omega)⟩))
      have HFR := hide (show Fresh w5 w5.heap.size from Nat.le_refl _)
      have HBX := hide (Blk.new w5.drew 61 [.int .i64 0, .int .i64 0, .int .i64 0, .bool false])
      clear hpb
      have HOF := hide (fun W (hW : Grow w5 W) => L5.of_in ((HT.out.grow c5).grow hW) HG.out.cl HJ.out.2 HJ.out.1)
      go_wp2_with fail
      go_region_held3 (fun W => W.cell? ⟨p, 0, none⟩ = some (.pointer (some ⟨tb, 0, none⟩)) ∧ W.cell? ⟨b, 1, none⟩ = some (.int .i64 x.c)) (first | assumption | (refine HKS.out _ _ ?_ (by assumption); assumption) | (refine HKS.out _ _ (Grow.box _ _) ?_; assumption) | (refine HKS.out _ _ (Grow.box _ _) hk6) | (exact HKT.out _ _ _ (HKT.out _ _ _ (HKT.out _ _ _ (HKT.out _ _ _ hk6)))) | go_keep) (first | (go_at_call 49; (first | (with_reducible refine (HOF.out _ (Chg.refl _ _)).mono ?_) | (refine (HOF.out _ (Chg.drew (Chg.refl _ _))).mono ?_) | (refine (HOF.out _ (Chg.drew (Grow.box _ _))).mono ?_)); rintro e w6 ⟨rfl, c6⟩; have hk6 := HKS.out _ _ c6 (by assumption); (first | (have gk : Grow w5 w6 := (Chg.drew (Chg.refl _ _)).trans c6) | (have gk : Grow w5 w6 := (Chg.alloc (Chg.drew (Chg.refl _ _)) _).trans c6) | (have gk : Grow w5 w6 := (Chg.drew (Chg.alloc (Chg.refl _ _) _)).trans c6)); (try (have kb := HBX.out.chg c6 id; (have kc0 : w6.cell? ⟨w5.heap.size, 0, none⟩ = some (.int .i64 0) := kb.cell 0); (have kc1 : w6.cell? ⟨w5.heap.size, 1, none⟩ = some (.int .i64 0) := kb.cell 1); (have kc2 : w6.cell? ⟨w5.heap.size, 2, none⟩ = some (.int .i64 0) := kb.cell 2); (have kc3 : w6.cell? ⟨w5.heap.size, 3, none⟩ = some (.bool false) := kb.cell 3); (have kz0 : w6.frozen? ⟨w5.heap.size, 0, none⟩ = false := kb.frozen 0); (have kz1 : w6.frozen? ⟨w5.heap.size, 1, none⟩ = false := kb.frozen 1); (have kz2 : w6.frozen? ⟨w5.heap.size, 2, none⟩ = false := kb.frozen 2); (have kz3 : w6.frozen? ⟨w5.heap.size, 3, none⟩ = false := kb.frozen 3)))))
      all_goals first
        | (have t0 : ((((w6.setCell ⟨w5.heap.size, 0, none⟩ (.int .i64 K)).setCell ⟨w5.heap.size, 1, none⟩ (.int .i64 R)).setCell ⟨w5.heap.size, 2, none⟩ (.int .i64 D)).setCell ⟨w5.heap.size, 3, none⟩ (.bool F)).cell? ⟨w5.heap.size, 0, none⟩ = some (.int .i64 K) := ((((kb.set_ 0 (.int .i64 K)).set_ 1 (.int .i64 R)).set_ 2 (.int .i64 D)).set_ 3 (.bool F)).cell 0
           have gW : Grow w5 ((((w6.setCell ⟨w5.heap.size, 0, none⟩ (.int .i64 K)).setCell ⟨w5.heap.size, 1, none⟩ (.int .i64 R)).setCell ⟨w5.heap.size, 2, none⟩ (.int .i64 D)).setCell ⟨w5.heap.size, 3, none⟩ (.bool F)) := Fresh.put HFR.out (Fresh.put HFR.out (Fresh.put HFR.out (Fresh.put HFR.out gk 0 _) 1 _) 2 _) 3 _)
        | (have t0 : (w6.alloc (.cells #[.int .i64 K, .int .i64 R, .int .i64 D, .bool F] 61)).cell? ⟨w6.heap.size, 0, none⟩ = some (.int .i64 K) := (Blk.new w6 61 [.int .i64 K, .int .i64 R, .int .i64 D, .bool F]).cell 0
           have gW : Grow w5 (w6.alloc (.cells #[.int .i64 K, .int .i64 R, .int .i64 D, .bool F] 61)) := gk.alloc _)
      all_goals replace x2 := Grow.cell gW x2
      all_goals replace y0 := Grow.cell gW y0
      all_goals clear HHO hk6 HKS HKT HBX HOF k0 x1
      · go_wp2_with fail
        refine wp_region_grow (by kernel_rfl) (by kernel_rfl) ?_
        repeat (
          with_reducible refine wpQuiet_step ?_
          intro K hK
          first
            | ((with_reducible refine quiet_offT rfl ?_ (hK _ ?_)); focus (refine ⟨_, rfl, ?_⟩; with_reducible rfl))
            | ((with_reducible refine quiet_offF rfl ?_ (hK _ ?_)); focus (refine ⟨_, rfl, ?_⟩; with_reducible rfl))
            | ((with_reducible refine quiet_offN rfl ?_ (hK _ ?_)); focus (exact rfl))
            | ((first | with_reducible refine quiet_free rfl ?_ | ((with_reducible refine quiet_on rfl ?_ ?_); focus (refine ⟨_, rfl, ?_⟩; with_reducible rfl)))
               apply Exists.intro
               refine ⟨fun Wq hW => ?_, hK _ ?_⟩
               focus (have q0 := Grow.cell hW x2; have q1 := Grow.cell hW y0; have q2 := Grow.cell hW t0; go_simp; first | done | with_reducible rfl))
          clear hK K
          simp only [Act.put, List.setIfInBounds_toArray, List.set_cons_zero, List.set_cons_succ])
        with_reducible refine wpQuiet_nil ?_
        intro w9 c9
        go_wp2
        go_returns
        rw [HX.out]
        exact ⟨rfl, (c5.trans gW).trans c9⟩
      · go_wp2_with fail
        refine wp_region_grow (by kernel_rfl) (by kernel_rfl) ?_
        repeat (
          with_reducible refine wpQuiet_step ?_
          intro K hK
          first
            | ((with_reducible refine quiet_offT rfl ?_ (hK _ ?_)); focus (refine ⟨_, rfl, ?_⟩; with_reducible rfl))
            | ((with_reducible refine quiet_offF rfl ?_ (hK _ ?_)); focus (refine ⟨_, rfl, ?_⟩; with_reducible rfl))
            | ((with_reducible refine quiet_offN rfl ?_ (hK _ ?_)); focus (exact rfl))
            | ((first | with_reducible refine quiet_free rfl ?_ | ((with_reducible refine quiet_on rfl ?_ ?_); focus (refine ⟨_, rfl, ?_⟩; with_reducible rfl)))
               apply Exists.intro
               refine ⟨fun Wq hW => ?_, hK _ ?_⟩
               focus (have q0 := Grow.cell hW x2; have q1 := Grow.cell hW y0; have q2 := Grow.cell hW t0; go_simp; first | done | with_reducible rfl))
          clear hK K
          simp only [Act.put, List.setIfInBounds_toArray, List.set_cons_zero, List.set_cons_succ])
        with_reducible refine wpQuiet_nil ?_
        intro w9 c9
        go_wp2
        go_returns
        rw [HX.out]
        exact ⟨rfl, (c5.trans gW).trans c9⟩
end
end Go.Proofs.YtjfpjnhlnoiekaaGreat.L9
/- Graphs: Holds: what it answers. Conditions: the number fits an int. -/
namespace Go.Proofs.YtjfpjnhlnoiekaaGreat.L9
open Go.ChangeShapes Go.WideShapes Go.ChangeAt Go.RowKit Go.Maps
open Go.Proofs.YtjfpjnhlnoiekaaGreat.L5 (Cl clV rtB Tb clAt shX shR shD woV hoB IsCls newX isRf)
set_option linter.unusedVariables false
section
variable {w : World} {z p m tb : Nat} {S : Nat → Prop} {f : Int → Option Nat} {ow : Nat → Int} {cs : List Cl} {L : List Nd} {x : Nd} {i : Int}
set_option maxRecDepth 100000 in
set_option maxHeartbeats 1000000 in
theorem holds_g (h : Gr w z S p m tb f ow cs L) (hi : In64 i) :
    Calls Tryz.prog 94 #[ptr p, .int .i64 i] w fun e w' => ∃ a cap, e = .returned (.slice a (hldX cs L i).length cap) ∧ w'.ownsRow w.heap.size 3 1 (.slice a (hldX cs L i).length cap) (hldX cs L i).length (ints (hldX cs L i)) ∧ Grow w w' := by
  have HG := hide h
  cases hn : nd L i with
  | none =>
    have HX := hide (show hldX cs L i = [] by simp [hldX, hn])
    have hl := look_none h hi hn
    clear h
    go_enter Tryz.func94, Tryz.ntmps94
    go_wp2_with fail
    refine (all_g HG.out).mono ?_
    rintro e w' ⟨rfl, rfl⟩
    go_wp2
    go_ret
    rw [HX.out]
    exact ⟨_, _, rfl, World.ownsRow_nil _ _ _ _, Chg.refl _ _⟩
  | some x =>
    obtain ⟨base, v, ht⟩ := h.tb_
    have HT := hide ht
    have k0 := h.cell0
    obtain ⟨b, br, bd, hb, hl, hx⟩ := look_some h hi hn
    have hok := h.ok x (nd_some hn).1
    obtain ⟨c, hc, hc1⟩ := hok.cl
    obtain ⟨x0, x1, x2, x3, x4, x5⟩ := hx.cells
    have HX := hide (show hldX cs L i = hld (isRf c.k) x.refs by simp [hldX, hn, hc, kd])
    have HHO := hide (fun W (hW : Grow w W) (k : Nat) => L5.holds_is (HT.out.grow hW) HG.out.cl (n := x.c) (l := (k : Int)) (b := decide (0 < k) || !isRf c.k) (by rw [hc]; simp [hoB]))
    have HBR := hide hx.2.1
    have HRL := hide hok.rl
    generalize isRf c.k = r at *
    obtain ⟨i0, hi0, hz0, hz1, hz2⟩ := info_parts Tryz.infoI
    have HI := hide hi0
    have HZ0 := hide hz0
    have HZ1 := hide hz1
    have HZ2 := hide hz2
    clear h ht hb hx hok hc hc1 x0 x3 x4 x5 hi0 hz0 hz1 hz2
    obtain ⟨n, hnn⟩ : ∃ n, x.refs.length = n := ⟨_, rfl⟩
    rw [hnn] at x2
    have HNN := hide hnn
    clear hnn
    go_enter Tryz.func94, Tryz.ntmps94
    go_wp2_with fail
    refine (all_g HG.out).mono ?_
    rintro e w' ⟨rfl, rfl⟩
    go_wp2_with fail
    go_loopw [6, 21] (fun v c wr => ∃ k : Nat, k ≤ n ∧ c = .int .i64 k ∧ wr.ownsRow w.heap.size 3 1 v (hld r (x.refs.take k)).length (ints (hld r (x.refs.take k))) ∧ Grow w wr) (fun _ c _ => n - (Go.RowKit.intOf c).toNat)
    case atStart => exact ⟨0, Nat.zero_le _, rfl, by cases r <;> exact World.ownsRow_nil _ _ _ _, Chg.refl _ _⟩
    case round =>
      obtain ⟨k, hk, rfl, hown, hgw⟩ := hrel
      have y0 := Grow.cell hgw k0
      have y1 := Grow.cell hgw x1
      have y2 := Grow.cell hgw x2
      rcases Nat.eq_or_lt_of_le hk with rfl | hlt
      · have q1 : decide ((k : Int) < k) = false := by simp
        rw [← HNN.out, List.take_length] at hown
        obtain ⟨a, cap, rfl⟩ := own_len hown
        have HO := hide hown
        clear hown
        go_wp2
        go_ret
        rw [HX.out]
        exact ⟨_, _, rfl, HO.out, hgw⟩
      · have q1 : decide ((k : Int) < n) = true := by simp; omega
        have yk := Grow.cell hgw ((HBR.out.cell k).trans (ints_get _ _ (by rw [HNN.out]; exact hlt)))
        obtain ⟨q, hq⟩ : ∃ q, x.refs.getD k 0 = q := ⟨_, rfl⟩
        rw [hq] at yk
        have HST := hide (hq ▸ hld_step r x.refs k (by rw [HNN.out]; exact hlt))
        have HLT := hide hlt
        have hw : IntKind.i64.wrap ((k : Int) + 1) = ((k + 1 : Nat) : Int) := (IntWalk.i64_in _ (by have := HRL.out; have := HNN.out; omega)).trans (by omega)
        have HLEN := hide (show (hld r (x.refs.take k)).length ≤ 30 by have := hld_len r (x.refs.take k); have := HRL.out; simp at *; omega)
        obtain ⟨xs, hxs⟩ : ∃ xs, xs = hld r (x.refs.take k) := ⟨_, rfl⟩
        rw [← hxs] at hown HST HLEN
        have HO0 := hide hown
        by_cases hq0 : q = 0
        · subst hq0
          have q2 : ((0 : Int) != 0) = false := rfl
          have HS := hide (show hld r (x.refs.take (k + 1)) = xs by rw [HST.out]; simp)
          clear hown hq hxs HST
          go_wp2_with fail
          refine wp_region_grow (by kernel_rfl) (by kernel_rfl) ?_
          repeat (
            with_reducible refine wpQuiet_step ?_
            intro K hK
            first
              | ((with_reducible refine quiet_offT rfl ?_ (hK _ ?_)); focus (refine ⟨_, rfl, ?_⟩; with_reducible rfl))
              | ((with_reducible refine quiet_offF rfl ?_ (hK _ ?_)); focus (refine ⟨_, rfl, ?_⟩; with_reducible rfl))
              | ((with_reducible refine quiet_offN rfl ?_ (hK _ ?_)); focus (exact rfl))
              | ((first | with_reducible refine quiet_free rfl ?_ | ((with_reducible refine quiet_on rfl ?_ ?_); focus (refine ⟨_, rfl, ?_⟩; with_reducible rfl)))
                 apply Exists.intro
                 refine ⟨fun Wq hW => ?_, hK _ ?_⟩
                 focus (have q0 := Grow.cell hW y0; have q1 := Grow.cell hW y1; go_simp; first | done | with_reducible rfl))
            clear hK K
            simp only [Act.put, List.setIfInBounds_toArray, List.set_cons_zero, List.set_cons_succ])
          with_reducible refine wpQuiet_nil ?_
          intro w5 c5
          have HO5 := hide (own_grow HO0.out c5)
          have g5 := hgw.trans c5
          go_wp2
          go_roundw
          case rel => exact ⟨k + 1, HLT.out, rfl, by rw [HS.out]; exact HO5.out, g5⟩
          case measure => have := HLT.out; simp [Go.RowKit.intOf]; omega
        · have q2 : (q != 0) = true := by simpa using hq0
          cases hB : (decide (0 < k) || !r) with
          | false =>
            have HS := hide (show hld r (x.refs.take (k + 1)) = xs by rw [HST.out, hB]; simp)
            have HHK := hide (fun W (hW : Grow wr W) => (hB ▸ HHO.out W (hgw.trans hW) k : Calls Tryz.prog 60 #[.pointer (some ⟨tb, 0, none⟩), .int .i64 x.c, .int .i64 k] W fun e w' => e = .returned (.bool false) ∧ Grow W w'))
            clear hown hq hxs HST hq0 HHO hB
            go_wp2_with fail
            refine wp_region_grow (by kernel_rfl) (by kernel_rfl) ?_
            repeat (
              with_reducible refine wpQuiet_step ?_
              intro K hK
              first
                | ((with_reducible refine quiet_offT rfl ?_ (hK _ ?_)); focus (refine ⟨_, rfl, ?_⟩; with_reducible rfl))
                | ((with_reducible refine quiet_offF rfl ?_ (hK _ ?_)); focus (refine ⟨_, rfl, ?_⟩; with_reducible rfl))
                | ((with_reducible refine quiet_offN rfl ?_ (hK _ ?_)); focus (exact rfl))
                | ((first | with_reducible refine quiet_free rfl ?_ | ((with_reducible refine quiet_on rfl ?_ ?_); focus (refine ⟨_, rfl, ?_⟩; with_reducible rfl)))
                   apply Exists.intro
                   refine ⟨fun Wq hW => ?_, hK _ ?_⟩
                   focus (have q0 := Grow.cell hW y0; have q1 := Grow.cell hW y1; go_simp; first | done | with_reducible rfl | (go_at_call 60; (first | with_reducible exact grown_call hW (HHK.out _ hW) | with_reducible exact grown_same hW (HHK.out _ hW)))))
              clear hK K
              simp only [Act.put, List.setIfInBounds_toArray, List.set_cons_zero, List.set_cons_succ])
            with_reducible refine wpQuiet_nil ?_
            intro w5 c5
            have HO5 := hide (own_grow HO0.out c5)
            have g5 := hgw.trans c5
            go_wp2
            go_roundw
            case rel => exact ⟨k + 1, HLT.out, rfl, by rw [HS.out]; exact HO5.out, g5⟩
            case measure => have := HLT.out; simp [Go.RowKit.intOf]; omega
          | true =>
            have HS := hide (show hld r (x.refs.take (k + 1)) = xs ++ [q] by rw [HST.out, hB]; simp [hq0])
            have HHK := hide (fun W (hW : Grow wr W) => (hB ▸ HHO.out W (hgw.trans hW) k : Calls Tryz.prog 60 #[.pointer (some ⟨tb, 0, none⟩), .int .i64 x.c, .int .i64 k] W fun e w' => e = .returned (.bool true) ∧ Grow W w'))
            clear hown hq hxs HST hq0 HHO hB
            go_wp2_with fail
            refine wp_region_grow (by kernel_rfl) (by kernel_rfl) ?_
            repeat (
              with_reducible refine wpQuiet_step ?_
              intro K hK
              first
                | ((with_reducible refine quiet_offT rfl ?_ (hK _ ?_)); focus (refine ⟨_, rfl, ?_⟩; with_reducible rfl))
                | ((with_reducible refine quiet_offF rfl ?_ (hK _ ?_)); focus (refine ⟨_, rfl, ?_⟩; with_reducible rfl))
                | ((with_reducible refine quiet_offN rfl ?_ (hK _ ?_)); focus (exact rfl))
                | ((first | with_reducible refine quiet_free rfl ?_ | ((with_reducible refine quiet_on rfl ?_ ?_); focus (refine ⟨_, rfl, ?_⟩; with_reducible rfl)))
                   apply Exists.intro
                   refine ⟨fun Wq hW => ?_, hK _ ?_⟩
                   focus (have q0 := Grow.cell hW y0; have q1 := Grow.cell hW y1; go_simp; first | done | with_reducible rfl | (go_at_call 60; (first | with_reducible exact grown_call hW (HHK.out _ hW) | with_reducible exact grown_same hW (HHK.out _ hW)))))
              clear hK K
              simp only [Act.put, List.setIfInBounds_toArray, List.set_cons_zero, List.set_cons_succ])
            with_reducible refine wpQuiet_nil ?_
            intro w5 c5
            have g5 := hgw.trans c5
            have HO := hide ((own_grow HO0.out c5).alloc (.cells [.int .i64 q].toArray 3))
            have HBK := hide (Blk.new w5 3 [.int .i64 q])
            have HC := hide (g5.alloc (.cells [.int .i64 q].toArray 3))
            have HBL := hide g5.size
            clear g5 c5 HO0 y0 y1 y2 yk HHK
            go_wp2_with (at_builtin; refine wpList_append_own _ rfl _ _ 27 rfl w.heap.size 3 i0 (.int .i64 0) 1 8 Tryz.underlying27 HI.out HZ0.out HZ1.out HZ2.out rfl (by decide) _ _ _ rfl HO.out ⟨w5.heap.size, 0, none⟩ 1 1 [.int .i64 q] rfl rfl ?c1 ?c2 ?c3 ?c4 ?c5 ?_)
            case c1 => intro j u hj; rw [addr_add, Nat.zero_add, HBK.out.cell]; exact hj
            case c2 => intro u hu; simp at hu; subst hu; rfl
            case c3 => have := HLEN.out; unfold maxLen; omega
            case c4 => have := HLEN.out; omega
            case c5 => rw [World.size_alloc]; have := HBL.out; omega
            intro v' w6 hown3 hgrow _
            have cc := Chg.grownOwn HC.out HO.out (Nat.le_refl _) hgrow
            have HO3 := hide hown3
            clear hgrow hown3 HC HO HBK
            go_wp2
            go_roundw
            case rel =>
              refine ⟨k + 1, HLT.out, rfl, ?_, cc⟩
              rw [HS.out, List.length_append, List.length_singleton]
              have := HO3.out
              simpa [ints] using this
            case measure => have := HLT.out; simp [Go.RowKit.intOf]; omega
end
end Go.Proofs.YtjfpjnhlnoiekaaGreat.L9
/- Graphs: forget: references to what is gone are cleared. Conditions: none. -/
namespace Go.Proofs.YtjfpjnhlnoiekaaGreat.L9
open Go.ChangeShapes Go.WideShapes Go.ChangeAt Go.RowKit Go.Maps
open Go.Proofs.YtjfpjnhlnoiekaaGreat.L5 (Cl clV rtB Tb clAt shX shR shD woV hoB IsCls newX isRf)
set_option linter.unusedVariables false

/-- A reference to what is not there, cleared. -/
def c1 (f : Int → Option Nat) (t : Int) : Int := if (f t).isSome then t else 0
def clr (f : Int → Option Nat) (x : Nd) : Nd := { x with refs := x.refs.map (c1 f) }
def clrL (f : Int → Option Nat) (left : Int → Bool) (x : Nd) : Nd := if left x.id then x else clr f x
/-- The first k references are cleared. -/
def clK (f : Int → Option Nat) (l : List Int) (k : Nat) : List Int := (l.take k).map (c1 f) ++ l.drop k
section
variable {w w' : World} {z p m tb : Nat} {S : Nat → Prop} {f : Int → Option Nat} {ow : Nat → Int} {cs : List Cl} {L : List Nd} {x : Nd} {i : Int}
theorem clK_zero (l : List Int) : clK f l 0 = l := by simp [clK]
theorem clK_all (l : List Int) : clK f l l.length = l.map (c1 f) := by simp [clK]
theorem clK_len (l : List Int) (k : Nat) : (clK f l k).length = l.length := by simp [clK]; omega
theorem clK_get (l : List Int) (k : Nat) : (clK f l k).getD k 0 = l.getD k 0 := by
  rcases Nat.lt_or_ge k l.length with h | h
  · have hl : ((l.take k).map (c1 f)).length = k := by simp; omega
    unfold clK
    rw [List.getD_eq_getElem?_getD, List.getElem?_append_right (by omega), hl]
    simp [List.getD_eq_getElem?_getD]
  · have h1 := clK_len (f := f) l k
    rw [List.getD_eq_getElem?_getD, List.getD_eq_getElem?_getD, List.getElem?_eq_none (by omega), List.getElem?_eq_none h]
theorem clK_step (l : List Int) (k : Nat) (hk : k < l.length) : clK f l (k + 1) = (clK f l k).set k (c1 f (l.getD k 0)) := by
  have hl : ((l.take k).map (c1 f)).length = k := by simp; omega
  have e1 : l.take (k + 1) = l.take k ++ [l.getD k 0] := by
    rw [List.take_add_one, List.getElem?_eq_getElem hk, List.getD_eq_getElem?_getD, List.getElem?_eq_getElem hk]
    rfl
  have e2 : l.drop k = l.getD k 0 :: l.drop (k + 1) := by
    rw [List.drop_eq_getElem_cons hk, List.getD_eq_getElem?_getD, List.getElem?_eq_getElem hk]
    rfl
  unfold clK
  rw [e1, e2, List.set_append_right _ _ (by omega), hl]
  simp
theorem updN_refs (L : List Nd) (i : Int) (l : List Int) (k : Nat) (t : Int) :
    updN (updN L i fun y => { y with refs := l }) i (fun y => { y with refs := y.refs.set k t }) = updN L i fun y => { y with refs := l.set k t } := by
  unfold updN
  rw [List.map_map]
  refine List.map_congr_left fun y _ => ?_
  show (if (if y.id = i then { y with refs := l } else y).id = i then _ else _) = _
  by_cases e : y.id = i
  · simp [e]
  · simp [e]
theorem clrL_id (left : Int → Bool) (x : Nd) : (clrL f left x).id = x.id := by
  unfold clrL clr
  split <;> rfl
theorem clr_start (h : Gr w z S p m tb f ow cs L) : L.map (clrL f fun x => (f x).isSome) = L := by
  refine (List.map_congr_left fun y hy => ?_).trans (List.map_id L)
  obtain ⟨b, hb, _⟩ := h.nds y hy
  simp [clrL, hb]
theorem clr_end {left : Int → Bool} (hl : ∀ x, left x = false) (L : List Nd) : L.map (clrL f left) = L.map (clr f) := List.map_congr_left fun y _ => by simp [clrL, hl]
theorem nd_clr (hs : Srt L) (left : Int → Bool) (hx : x ∈ L) (hl : left x.id = true) : nd (L.map (clrL f left)) x.id = some x := by
  have hs' : Srt (L.map (clrL f left)) := srt_of_ids hs (by rw [List.map_map]; exact List.map_congr_left fun y _ => clrL_id left y)
  have hm : x ∈ L.map (clrL f left) := List.mem_map.2 ⟨x, hx, by simp [clrL, hl]⟩
  exact nd_mem hs' hm
theorem clr_step (hs : Srt L) (left : Int → Bool) (hx : x ∈ L) (hl : left x.id = true) :
    updN (L.map (clrL f left)) x.id (fun y => { y with refs := x.refs.map (c1 f) }) = L.map (clrL f fun y => left y && !decide (y = x.id)) := by
  unfold updN
  rw [List.map_map]
  refine List.map_congr_left fun y hy => ?_
  show (if (clrL f left y).id = x.id then { clrL f left y with refs := x.refs.map (c1 f) } else clrL f left y) = _
  rw [clrL_id]
  by_cases e : y.id = x.id
  · obtain rfl := srt_inj hs hy hx e
    simp [clrL, hl, clr]
  · simp [clrL, e]
theorem updN_same (hs : Srt L) (hx : nd L i = some x) (l : List Int) (hl : l = x.refs) : updN L i (fun y => { y with refs := l }) = L := by
  subst hl
  unfold updN
  refine (List.map_congr_left fun y hy => ?_).trans (List.map_id L)
  obtain ⟨hm, e⟩ := nd_some hx
  split
  · rename_i h
    obtain rfl := srt_inj hs hy hm (by omega)
    rfl
  · rfl
/-- The state inside: node x's first k references are cleared. -/
structure Fo (w wr : World) (z : Nat) (S : Nat → Prop) (p m tb : Nat) (f : Int → Option Nat) (ow : Nat → Int) (cs : List Cl) (L : List Nd) (x : Nd) (b br bd r : Nat) (left : Int → Bool) (cnt k : Nat) : Prop where
  nod : Nod wr S ow b br bd { x with refs := clK f x.refs k }
  gr : Gr wr z S p m tb f ow cs (updN L x.id fun y => { y with refs := clK f x.refs k })
  rg : Rg wr m r f left cnt
  chg : Chg S w wr
theorem Fo.step {wr : World} {b br bd r : Nat} {left : Int → Bool} {cnt k : Nat} (h : Fo w wr z S p m tb f ow cs L x b br bd r left cnt k) (hn : nd L x.id = some x) (hb : f x.id = some b) (hk : k < x.refs.length) (hr : w.heap.size ≤ r) (hbr : br < w.heap.size) (hx0 : 1 ≤ x.id) (hq : c1 f (x.refs.getD k 0) = 0) :
    Fo w (wr.setCell ⟨br, k, none⟩ (.int .i64 0)) z S p m tb f ow cs L x b br bd r left cnt (k + 1) := by
  have hn' : nd (updN L x.id fun y => { y with refs := clK f x.refs k }) x.id = some { x with refs := clK f x.refs k } := by
    rw [nd_upd (fun y : Nd => { y with refs := clK f x.refs k }) (fun _ => rfl), if_pos rfl, hn]
    rfl
  have hok := h.gr.ok _ (nd_some hn').1
  have hs := clK_step (f := f) x.refs k hk
  rw [hq] at hs
  obtain ⟨h1, h2⟩ := h.gr.ofNod hn' hb h.nod (.inr (.inl rfl)) (k0 := k) (fun y => { y with refs := y.refs.set k 0 }) (fun _ => rfl) (hok.setRef k (show (Lit.int .i64 0).wf = true by decide)) (h.nod.setRef k 0)
  rw [updN_refs, ← hs] at h1
  have hne : m ≠ br := by
    intro e
    have o1 := h.nod.2.2.2.2.1.2.1
    have o2 := h.gr.om.1
    rw [← e, o2] at o1
    have : (0 : Int) = x.id := o1
    omega
  refine ⟨?_, h1, h.rg.chg ((Chg.refl _ _).set1 _ _) hne (by show ¬ r = br; omega), h.chg.trans h2⟩
  rw [hs]
  exact h.nod.setRef k 0
theorem Fo.skip {wr : World} {b br bd r : Nat} {left : Int → Bool} {cnt k : Nat} (h : Fo w wr z S p m tb f ow cs L x b br bd r left cnt k) (hk : k < x.refs.length) (hq : c1 f (x.refs.getD k 0) = x.refs.getD k 0) :
    Fo w wr z S p m tb f ow cs L x b br bd r left cnt (k + 1) := by
  have hs := clK_step (f := f) x.refs k hk
  have e : (clK f x.refs k).set k (x.refs.getD k 0) = clK f x.refs k := by
    have hl := clK_len (f := f) x.refs k
    have hg := clK_get (f := f) x.refs k
    rw [← hg, List.getD_eq_getElem?_getD, List.getElem?_eq_getElem (by omega)]
    exact List.set_getElem_self _
  rw [hq, e] at hs
  exact ⟨hs ▸ h.nod, hs ▸ h.gr, h.rg, h.chg⟩
set_option maxRecDepth 100000 in
set_option maxHeartbeats 1000000 in
theorem forget_any (h : Gr w z S p m tb f ow cs L) :
    Calls Tryz.prog 61 #[ptr p] w fun e w' => e = .returned (.tuple #[]) ∧ Gr w' z S p m tb f ow cs (L.map (clr f)) ∧ Chg S w w' := by
  have HG := hide h
  have hM := h.map
  have HCS := hide (clr_start h)
  clear h
  go_enter Tryz.func61, Tryz.ntmps61
  go_wp2_with fail
  refine (all_g HG.out).mono ?_
  rintro e w' ⟨rfl, rfl⟩
  go_wp2_with (first
    | (at_range; refine rg_range rfl _ rfl rfl hM ?_; intro w0 cnt0 hr0 hg0 hs0)
    | go_in)
  go_frame
  have HW := hide (show w.heap.size ≤ w.heap.size from Nat.le_refl _)
  go_loopw [4] (fun _ wr => ∃ (left : Int → Bool) (cnt : Nat), Rg wr m w.heap.size f left cnt ∧ Gr wr z S p m tb f ow cs (L.map (clrL f left)) ∧ Chg S w wr) (fun _ wr => wr.rangeLeft m w.heap.size)
  case atStart => exact ⟨_, _, hr0, by rw [HCS.out]; exact HG.out.grow hg0, hg0.mono fun _ _ h => h.elim⟩
  case round =>
    clear hr0 hg0 hs0 hM
    obtain ⟨left, cnt, hrg, hgr, hcw⟩ := hrel
    go_wp2_with (first
      | (at_next; refine rg_next rfl _ rfl rfl hrg ?_ ?_)
      | go_in)
    · intro hl0
      go_wp2
      go_end0
      exact ⟨rfl, by rw [← clr_end hl0]; exact hgr, hcw⟩
    · intro k b w1 cnt1 hk hlk hfk hrg1 hlt hc1 hs1 hen
      obtain ⟨x, hx, rfl⟩ := HG.out.no k (by rw [hfk]; simp)
      have hxn := nd_clr (f := f) HG.out.srt left hx hlk
      have hgr1 : Gr w1 z S p m tb f ow cs (L.map (clrL f left)) := hgr.chg hc1 (fun q hq => by have := (HG.out.s p HG.out.sp); omega) (fun q hq e => by have := (HG.out.s q hq).2; omega)
      obtain ⟨b', hb', br, bd, hx'⟩ := hgr1.f_some hxn
      obtain rfl : b' = b := by rw [hfk] at hb'; injection hb' with hb'; exact hb'.symm
      have hxo := HG.out.ok x hx
      have hbr := (HG.out.s br hx'.2.2.2.2.2.2.1).2
      have HX := hide (And.intro hxn (And.intro hfk (And.intro hbr hxo)))
      have hcw1 : Chg S w w1 := hcw.step hc1 fun q hq e => by omega
      have HST := hide (clr_step (f := f) HG.out.srt left hx hlk)
      have HLT := hide hlt
      have HRL := hide hrg.left_eq
      have HF0 := hide (show Fo w w1 z S p m tb f ow cs (L.map (clrL f left)) x b' br bd w.heap.size (fun y => left y && !decide (y = x.id)) cnt1 0 from ⟨by rw [clK_zero]; exact hx', by rw [clK_zero, updN_same hgr1.srt hxn _ rfl]; exact hgr1, hrg1, hcw1⟩)
      obtain ⟨-, -, x2, -, -, -⟩ := hx'.cells
      obtain ⟨n, hnn⟩ : ∃ n, x.refs.length = n := ⟨_, rfl⟩
      rw [hnn] at x2
      have HNN := hide hnn
      clear hrg hgr hcw hlt hlk hfk hrg1 hc1 hs1 hx hxn hgr1 hb' hx' hxo hbr hcw1 hnn
      go_wp2_with fail
      go_loopw [21] (fun c wr2 => ∃ k : Nat, k ≤ n ∧ c = .int .i64 k ∧ Fo w wr2 z S p m tb f ow cs (L.map (clrL f left)) x b' br bd w.heap.size (fun y => left y && !decide (y = x.id)) cnt1 k) (fun c _ => n - (Go.RowKit.intOf c).toNat)
      case atStart => exact ⟨0, Nat.zero_le _, rfl, HF0.out⟩
      case round =>
        clear HF0 x2
        obtain ⟨k, hkn, rfl, hF⟩ := hrel
        rcases Nat.eq_or_lt_of_le hkn with rfl | hlt
        · have q1 : decide ((k : Int) < k) = false := by simp
          have HFF := hide hF
          clear hF
          go_wp2
          go_roundw
          case rel =>
            have h1 := HFF.out.gr
            rw [← HNN.out, clK_all, HST.out] at h1
            exact ⟨_, _, HFF.out.rg, h1, HFF.out.chg⟩
          case measure => rw [HFF.out.rg.left_eq, HRL.out]; exact HLT.out
        · have q1 : decide ((k : Int) < n) = true := by simp; omega
          have hl := hF.rg.mn.look (HX.out.2.2.2.rw_ _ (show x.refs.getD k 0 ∈ x.refs by rw [List.getD_eq_getElem?_getD, List.getElem?_eq_getElem (by rw [HNN.out]; exact hlt)]; exact List.getElem_mem _))
          have x2 := hF.nod.cells.2.2.1
          rw [show ({ x with refs := clK f x.refs k } : Nd).refs.length = n by show (clK f x.refs k).length = n; rw [clK_len, HNN.out]] at x2
          have xk := (hF.nod.2.1.cell k).trans (ints_get _ _ (by show k < (clK f x.refs k).length; rw [clK_len, HNN.out]; exact hlt))
          rw [show (({ x with refs := clK f x.refs k } : Nd).refs.getD k 0) = x.refs.getD k 0 from clK_get _ _] at xk
          have fk := hF.nod.2.1.frozen k
          have hw : IntKind.i64.wrap ((k : Int) + 1) = ((k + 1 : Nat) : Int) := (IntWalk.i64_in _ (by have := HX.out.2.2.2.rl; have := HNN.out; omega)).trans (by omega)
          have HK := hide hlt
          cases hfq : f (x.refs.getD k 0) with
          | none =>
            rw [hfq] at hl
            have HFF := hide (hF.step HX.out.1 HX.out.2.1 (by rw [HNN.out]; exact hlt) (Nat.le_refl _) HX.out.2.2.1 HX.out.2.2.2.id1 (by unfold c1; rw [hfq]; rfl))
            clear hF
            generalize x.refs.getD k 0 = q at *
            go_wp2
            go_roundw
            case rel => exact ⟨k + 1, HK.out, rfl, HFF.out⟩
            case measure => have := HK.out; simp [Go.RowKit.intOf]; omega
          | some b2 =>
            rw [hfq] at hl
            have HFF := hide (hF.skip (by rw [HNN.out]; exact hlt) (by unfold c1; rw [hfq]; rfl))
            clear hF
            generalize x.refs.getD k 0 = q at *
            go_wp2
            go_roundw
            case rel => exact ⟨k + 1, HK.out, rfl, HFF.out⟩
            case measure => have := HK.out; simp [Go.RowKit.intOf]; omega
end
end Go.Proofs.YtjfpjnhlnoiekaaGreat.L9
/- Graphs: Keep: how many go; who stays, with which references. Conditions: a graph has fewer than 1000000 nodes, and fewer than 1000000 are named. -/
namespace Go.Proofs.YtjfpjnhlnoiekaaGreat.L9
open Go.ChangeShapes Go.WideShapes Go.ChangeAt Go.RowKit Go.Maps
open Go.Proofs.YtjfpjnhlnoiekaaGreat.L5 (Cl clV rtB Tb clAt shX shR shD woV hoB IsCls newX isRf)
set_option linter.unusedVariables false

/-- Is a number among some? -/
def hasB (l : List Int) (y : Int) : Bool := l.any fun z => decide (z = y)
theorem hasB_step (l : List Int) (k : Nat) (hk : k < l.length) : hasB (l.take (k + 1)) = fun y => decide (y = l.getD k 0) || hasB (l.take k) y := by
  funext y
  unfold hasB
  rw [List.take_add_one, List.getElem?_eq_getElem hk, List.any_append, List.getD_eq_getElem?_getD, List.getElem?_eq_getElem hk]
  simp [Bool.or_comm, eq_comm]
/-- Who stays, with which references. -/
def kpL (L : List Nd) (l : List Int) : List Nd := (L.filter fun x => hasB l x.id).map fun x => { x with refs := x.refs.map fun t => if hasB l t && (nd L t).isSome then t else 0 }
def kpN (L : List Nd) (l : List Int) : Nat := (L.filter fun x => !hasB l x.id).length
section
variable {w w' : World} {z p m tb : Nat} {S : Nat → Prop} {f : Int → Option Nat} {ow : Nat → Int} {cs : List Cl} {L : List Nd} {x : Nd} {i : Int} {zs : List Int}
/-- Who is gone. -/
def gone (kp : Int → Bool) (left : Int → Bool) (y : Nd) : Bool := !kp y.id && !left y.id
theorem gone_start (h : Gr w z S p m tb f ow cs L) (kp : Int → Bool) : L.filter (gone kp fun x => (f x).isSome) = [] := by
  refine List.filter_eq_nil_iff.2 fun y hy => ?_
  obtain ⟨b, hb, _⟩ := h.nds y hy
  simp [gone, hb]
theorem gone_end {kp left : Int → Bool} (hl : ∀ x, left x = false) : L.filter (gone kp left) = L.filter fun y => !kp y.id := List.filter_congr fun y _ => by simp [gone, hl]
theorem gone_no {kp left : Int → Bool} {i : Int} (hk : kp i = true) : gone kp (fun y => left y && !decide (y = i)) = gone kp left := by
  funext y
  unfold gone
  by_cases e : y.id = i
  · simp [e, hk]
  · simp [e]
theorem gone_len {kp left : Int → Bool} (hs : Srt L) (hx : x ∈ L) (hl : left x.id = true) (hk : kp x.id = false) : (L.filter (gone kp fun y => left y && !decide (y = x.id))).length = (L.filter (gone kp left)).length + 1 := by
  have := len_step (p := fun i => !kp i && !left i) hs hx (by simp [hl])
  rw [← show (L.filter fun y => (!kp y.id && !left y.id)) = L.filter (gone kp left) from rfl, ← this]
  congr 1
  refine List.filter_congr fun y _ => ?_
  unfold gone
  by_cases e : y.id = x.id
  · simp [e, hk]
  · simp [e]
/-- What the map says. -/
def stF (f : Int → Option Nat) (kp left : Int → Bool) (y : Int) : Option Nat := if kp y || left y then f y else none
theorem stF_start (f : Int → Option Nat) (kp : Int → Bool) : stF f kp (fun x => (f x).isSome) = f := by
  funext y
  unfold stF
  cases h : f y <;> simp [h]
theorem stF_end {kp left : Int → Bool} (hl : ∀ x, left x = false) : stF f kp left = fun y => if kp y then f y else none := by
  funext y
  simp [stF, hl]
theorem stF_no {kp left : Int → Bool} {i : Int} (hk : kp i = true) : stF f kp (fun y => left y && !decide (y = i)) = stF f kp left := by
  funext y
  unfold stF
  by_cases e : y = i
  · simp [e, hk]
  · simp [e]
theorem stF_yes {kp left : Int → Bool} {i : Int} (hk : kp i = false) : stF f kp (fun y => left y && !decide (y = i)) = fun y => if y = i then none else stF f kp left y := by
  funext y
  unfold stF
  by_cases e : y = i
  · simp [e, hk]
  · simp [e]
/-- Those that stay, as a graph. -/
theorem Gr.keep (h : Gr w z S p m tb f ow cs L) (kp : Int → Bool) (c : Chg (· = m) w w') (hM : Mn w' m fun y => if kp y then f y else none) : Gr w' z S p m tb (fun y => if kp y then f y else none) ow cs (L.filter fun x => kp x.id) where
  blk := h.blk.chg c h.pm
  map := hM
  sp := h.sp
  sm := h.sm
  pm := h.pm
  om := h.om
  s := fun k hk => ⟨(h.s k hk).1, Nat.lt_of_lt_of_le (h.s k hk).2 c.size⟩
  nds := fun x hx => by
    obtain ⟨hx, hk⟩ := List.mem_filter.1 hx
    obtain ⟨b, h1, h2⟩ := h.nds x hx
    have hx1 := (h.ok x hx).id1
    refine ⟨b, by simp only [hk, if_true]; exact h1, h2.chg c fun k _ ho hkm => ?_⟩
    rw [hkm, h.om.1] at ho
    omega
  no := fun i hi => by
    cases hk : kp i with
    | false => simp [hk] at hi
    | true =>
      simp only [hk, if_true] at hi
      obtain ⟨x, hx, e⟩ := h.no i hi
      exact ⟨x, List.mem_filter.2 ⟨hx, by rw [e]; exact hk⟩, e⟩
  srt := h.srt.filter _
  ok := fun x hx => h.ok x (List.mem_filter.1 hx).1
  tab := by
    obtain ⟨base, v, t, t1, t2⟩ := h.tab
    exact ⟨base, v, Tb.chgT t t1 t2 c (fun k hk => by rw [hk]; exact (h.s m h.sm).1), t1, t2⟩
  cl := h.cl
  rt := h.rt
theorem Gr.f_nd (h : Gr w z S p m tb f ow cs L) (i : Int) : (f i).isSome = (nd L i).isSome := by
  cases hn : nd L i with
  | none => rw [h.f_none hn]; rfl
  | some x =>
    obtain ⟨b, hb, _⟩ := h.f_some hn
    rw [hb]
    rfl
theorem kp_clr (h : Gr w z S p m tb f ow cs L) (l : List Int) : (L.filter fun x => hasB l x.id).map (clr fun y => if hasB l y then f y else none) = kpL L l := by
  unfold kpL
  refine List.map_congr_left fun x _ => ?_
  unfold clr
  congr 1
  refine List.map_congr_left fun t _ => ?_
  unfold c1
  rw [← h.f_nd]
  cases hb : hasB l t <;> simp [hb]
set_option maxRecDepth 100000 in
set_option maxHeartbeats 1000000 in
theorem keep_any (h : Gr w z S p m tb f ow cs L) (hl : L.length < 1000000) {a : Option Addr} {len cap : Nat} (ha : IsRow .i64 w a len cap zs) (hlen : len < 1000000) :
    Calls Tryz.prog 40 #[ptr p, .slice a len cap] w fun e w' => e = .returned (.int .i64 (kpN L zs)) ∧ (∃ f', Gr w' z S p m tb f' ow cs (kpL L zs)) ∧ Chg S w w' := by
  have HG := hide h
  have HA := hide ha
  have HL := hide (And.intro hl hlen)
  have hmm := @run_makeMap Tryz.prog
  clear h ha hl hlen
  go_enter Tryz.func40, Tryz.ntmps40
  go_wp2_with fail
  refine (all_g HG.out).mono ?_
  rintro e w' ⟨rfl, rfl⟩
  have HS0 := hide (Su.made w)
  have HB0 := hide (Grow.box w (.map #[] 0))
  go_wp2_with fail
  go_loopw [18] (fun c wr => ∃ k : Nat, k ≤ len ∧ c = .int .i64 k ∧ Su wr w.heap.size k (hasB (zs.take k)) ∧ Grow w wr) (fun c _ => len - (Go.RowKit.intOf c).toNat)
  case atStart => exact ⟨0, Nat.zero_le _, rfl, HS0.out, HB0.out⟩
  case round =>
    obtain ⟨k, hk, rfl, hS, hgw⟩ := hrel
    rcases Nat.eq_or_lt_of_le hk with rfl | hlt
    · have q1 : decide ((k : Int) < k) = false := by simp
      have hzl : zs.length = k := HA.out.1
      rw [← hzl, List.take_length] at hS
      have hM : Mn wr m f := HG.out.map.chg hgw id
      have HCS := hide (And.intro (gone_start HG.out (hasB zs)) (stF_start f (hasB zs)))
      have HSS := hide hS
      have HGW := hide hgw
      have HMS := hide (show w.heap.size < wr.heap.size from hS.lt)
      rw [← hzl] at HL
      clear hS hgw HS0 HB0 hk
      go_wp2_with (first
        | (at_range; refine rg_range rfl _ rfl rfl hM ?_; intro w0 cnt0 hr0 hg0 hs0)
        | go_in)
      go_frame
      have HR0 := hide (show w.heap.size ≤ wr.heap.size from HGW.out.size)
      go_loopw [7] (fun c w1 => ∃ (left : Int → Bool) (cnt : Nat), Rg w1 m wr.heap.size (stF f (hasB zs) left) left cnt ∧ Su w1 w.heap.size k (hasB zs) ∧ c = .int .i64 ((L.filter (gone (hasB zs) left)).length : Nat) ∧ Chg (· = m) w w1) (fun _ w1 => w1.rangeLeft m wr.heap.size)
      case atStart => exact ⟨_, _, by rw [HCS.out.2]; exact hr0, by rw [← hzl]; exact HSS.out.chg hg0 id, by rw [HCS.out.1]; rfl, (HGW.out.trans hg0).mono fun _ _ h => h.elim⟩
      case round =>
        clear hr0 hg0 hs0 hM
        obtain ⟨left, cnt, hrg, hS, rfl, hcw⟩ := hrel
        go_wp2_with (first
          | (at_next; refine rg_next rfl _ rfl rfl hrg ?_ ?_)
          | go_in)
        · intro hl0
          rw [stF_end hl0] at hrg
          have HK := hide (HG.out.keep (hasB zs) hcw hrg.mn)
          rw [gone_end hl0]
          have HC := hide (show Chg S w wr from hcw.mono fun q _ e => by rw [e]; exact HG.out.sm)
          clear hrg hS hcw
          go_wp2_with fail
          refine (forget_any HK.out).mono ?_
          rintro e w9 ⟨rfl, hg9, hc9⟩
          go_wp2
          go_ret
          exact ⟨rfl, ⟨_, by rw [← kp_clr HG.out zs]; exact hg9⟩, HC.out.trans hc9⟩
        · intro q b w2 cnt1 hq hlq hfq hrg1 hlt hc1 hs1 hen
          have hfq2 : f q = some b := by
            unfold stF at hfq
            rwa [hlq, Bool.or_true, if_pos rfl] at hfq
          obtain ⟨x, hx, hxq⟩ := HG.out.no q (by rw [hfq2]; simp)
          have hS2 := hS.chg hc1 (by have := HMS.out; show ¬ _ = _; omega)
          have hlook := hS2.look hq
          have hcw2 : Chg (· = m) w w2 := hcw.step hc1 fun i hi e => by have := HR0.out; omega
          have HM := hide (show cnt1 < wr.rangeLeft m _ from by rw [hrg.left_eq]; exact hlt)
          have gB := Grow.box w2 (.cells #[] 122)
          cases hB : hasB zs q with
          | true =>
            rw [hB] at hlook
            have HR := hide (And.intro (hrg1.grow gB) (And.intro (hS2.chg gB id) (hcw2.step gB fun _ _ h => h.elim)))
            have HE := hide (And.intro (stF_no (f := f) (left := left) hB) (gone_no (left := left) hB))
            clear hrg hrg1 hS hcw hc1 hs1 hfq hfq2 hS2 hcw2 hlt hlq hx hxq
            go_wp2_with fail
            exact ⟨⟨fun y => left y && !decide (y = q), cnt1, by rw [HE.out.1]; exact HR.out.1, HR.out.2.1, by rw [HE.out.2], HR.out.2.2⟩, by rw [HR.out.1.left_eq]; exact HM.out⟩
          | false =>
            rw [hB] at hlook
            subst hxq
            have hln := gone_len HG.out.srt hx hlq hB
            have hbd : (L.filter (gone (hasB zs) left)).length ≤ L.length := List.length_filter_le _ _
            have hw : IntKind.i64.wrap (((L.filter (gone (hasB zs) left)).length : Int) + 1) = (((L.filter (gone (hasB zs) left)).length + 1 : Nat) : Int) := (IntWalk.i64_in _ (by have := HL.out.1; omega)).trans (by omega)
            have hrg2 := hrg1.grow gB
            have HR := hide (And.intro (hS2.chg gB id) (hcw2.step gB fun _ _ h => h.elim))
            have HE := hide (And.intro (stF_yes (f := f) (left := left) hB) hln)
            clear hrg hrg1 hS hcw hc1 hs1 hfq hfq2 hS2 hcw2 hlt hlq hx hln hbd
            generalize (L.filter (gone (hasB zs) left)).length = u at *
            go_wp2_with (first
              | (at_delete; refine rg_del rfl _ _ rfl rfl rfl hq hrg2 ?_; intro w3 cnt3 hrg3 hle hc3; go_frame)
              | go_in)
            have e2 : (fun y => left y && !decide (y = x.id) && !decide (y = x.id)) = fun y => left y && !decide (y = x.id) := by
              funext y
              cases left y <;> cases decide (y = x.id) <;> rfl
            rw [e2] at hrg3
            exact ⟨⟨fun y => left y && !decide (y = x.id), cnt3, by rw [HE.out.1]; exact hrg3, HR.out.1.chg hc3 (by show ¬ w.heap.size = m; have := (HG.out.s m HG.out.sm).2; omega), by rw [HE.out.2, Int.natCast_add]; rfl, HR.out.2.trans hc3⟩, by rw [hrg3.left_eq]; have := HM.out; omega⟩
    · have q1 : decide ((k : Int) < len) = true := by simp; omega
      have hzl : zs.length = len := HA.out.1
      obtain ⟨ax, rfl, hc, hwf⟩ := HA.out.at_ hlt
      have xk := Grow.cell hgw hc
      obtain ⟨w2, hput, hS2, hc2⟩ := hS.put hwf (by have := HL.out.2; unfold maxLen; omega)
      have HST := hide (hasB_step zs k (by omega))
      have HK := hide hlt
      have hw : IntKind.i64.wrap ((k : Int) + 1) = ((k + 1 : Nat) : Int) := (IntWalk.i64_in _ (by have := HL.out.2; omega)).trans (by omega)
      have HR := hide (And.intro hS2 (show Grow w w2 from hgw.step hc2 fun i hi e => by omega))
      clear hS hgw hS2 hc2 hc hwf hzl HS0 HB0
      generalize zs.getD k 0 = q at *
      go_wp2
      go_roundw
      case rel => exact ⟨k + 1, HK.out, rfl, by rw [HST.out]; exact HR.out.1, HR.out.2⟩
      case measure => have := HK.out; simp [Go.RowKit.intOf]; omega
end
end Go.Proofs.YtjfpjnhlnoiekaaGreat.L9
/- Graphs: all calls, in short forms. Conditions: the numbers fit an int; a graph has fewer than 1000000 nodes. -/
namespace Go.Proofs.YtjfpjnhlnoiekaaGreat.L9
open Go.ChangeShapes Go.WideShapes Go.ChangeAt Go.RowKit
open Go.Proofs.YtjfpjnhlnoiekaaGreat.L5 (Cl clV rtB Tb clAt shX shR shD woV hoB IsCls newX isRf)
set_option linter.unusedVariables false

/-- A graph at block p: its blocks are S, all behind z. -/
def GS (w : World) (z : Nat) (S : Nat → Prop) (p : Nat) (cs : List Cl) (L : List Nd) : Prop := ∃ m tb f ow, Gr w z S p m tb f ow cs L
section
variable {w w' : World} {z p : Nat} {S T : Nat → Prop} {cs : List Cl} {L : List Nd} {x : Nd} {i : Int}
theorem GS.chg (h : GS w z S p cs L) (c : Chg T w w') (hT : ∀ k, T k → z ≤ k) (hs : ∀ k, S k → ¬ T k) : GS w' z S p cs L := by
  obtain ⟨m, tb, f, ow, h⟩ := h
  exact ⟨m, tb, f, ow, h.chg c hT hs⟩
theorem GS.grow (h : GS w z S p cs L) (c : Grow w w') : GS w' z S p cs L := h.chg c (fun _ h => h.elim) fun _ _ h => h
theorem GS.s (h : GS w z S p cs L) {k : Nat} (hk : S k) : z ≤ k ∧ k < w.heap.size := by
  obtain ⟨m, tb, f, ow, h⟩ := h
  exact h.s k hk
theorem GS.srt (h : GS w z S p cs L) : Srt L := by
  obtain ⟨m, tb, f, ow, h⟩ := h
  exact h.srt
theorem GS.ok (h : GS w z S p cs L) {x : Nd} (hx : x ∈ L) : x.Ok cs := by
  obtain ⟨m, tb, f, ow, h⟩ := h
  exact h.ok x hx
theorem new_gs {base tb : Nat} {v : Value} (ht : Tb w base (some ⟨tb, 0, none⟩) v cs) (hz : tb < z ∧ ∀ k, v.ownBlock = some k → k < z) (hzw : z ≤ w.heap.size) (hl : cs.length ≤ 100) (hr : cs.all L5.Cl.rt = true) :
    Calls Tryz.prog 19 #[ptr tb] w fun e w' => ∃ p S, e = .returned (ptr p) ∧ Grow w w' ∧ GS w' z S p cs [] ∧ ∀ k, S k → w.heap.size ≤ k :=
  (new_g ht hz hzw hl hr).mono fun e w' ⟨h1, h2, h3⟩ => ⟨_, _, h1, h2, ⟨_, _, _, _, h3⟩, fun k hk => by omega⟩
theorem add_gs (h : GS w z S p cs L) (hl : L.length < 1000000) (hi : In64 i) (c l : Int) :
    Calls Tryz.prog 20 #[ptr p, .int .i64 i, .int .i64 c, .int .i64 l] w fun e w' => e = .returned (.int .i64 (adX cs L i c l)) ∧ Chg S w w' ∧ ∃ S', GS w' z S' p cs (adL cs L i c l) ∧ ∀ k, S' k → S k ∨ w.heap.size ≤ k := by
  obtain ⟨m, tb, f, ow, h⟩ := h
  by_cases hX : adX cs L i c l = 0
  · refine (add_yes h hi hX hl).mono fun e w' ⟨h1, h2, S', f', ow', h3, h4⟩ => ⟨by rw [h1, hX], h2, S', ⟨m, tb, f', ow', ?_⟩, fun k hk => ?_⟩
    · unfold adL
      rw [if_pos hX]
      exact h3
    · rcases (h4 k).1 hk with h | h
      · exact .inl h
      · exact .inr h.1
  · refine (add_no h hi rfl hX).mono fun e w' ⟨h1, h2⟩ => ⟨h1, h2.mono fun _ _ h => h.elim, S, ⟨m, tb, f, ow, ?_⟩, fun k hk => .inl hk⟩
    unfold adL
    rw [if_neg hX]
    exact h.grow h2
theorem setref_gs (h : GS w z S p cs L) {k t : Int} (hi : In64 i) (hk : In64 k) (ht : In64 t) :
    Calls Tryz.prog 22 #[ptr p, .int .i64 i, .int .i64 k, .int .i64 t] w fun e w' => e = .returned (.int .i64 (srX L i k t)) ∧ Chg S w w' ∧ GS w' z S p cs (srL L i k t) := by
  obtain ⟨m, tb, f, ow, h⟩ := h
  exact (setref_any h hi hk ht).mono fun e w' ⟨h1, h2, h3⟩ => ⟨h1, h3, _, _, _, _, h2⟩
theorem done_gs (h : GS w z S p cs L) (hi : In64 i) :
    Calls Tryz.prog 39 #[ptr p, .int .i64 i] w fun e w' => e = .returned (.int .i64 (dnX L i)) ∧ Chg S w w' ∧ GS w' z S p cs (dnL L i) := by
  obtain ⟨m, tb, f, ow, h⟩ := h
  exact (done_any h hi).mono fun e w' ⟨h1, h2, h3⟩ => ⟨h1, h3, _, _, _, _, h2⟩
theorem keep_gs (h : GS w z S p cs L) (hl : L.length < 1000000) {a : Option Addr} {len cap : Nat} {zs : List Int} (ha : IsRow .i64 w a len cap zs) (hlen : len < 1000000) :
    Calls Tryz.prog 40 #[ptr p, .slice a len cap] w fun e w' => e = .returned (.int .i64 (kpN L zs)) ∧ Chg S w w' ∧ GS w' z S p cs (kpL L zs) := by
  obtain ⟨m, tb, f, ow, h⟩ := h
  exact (keep_any h hl ha hlen).mono fun e w' ⟨h1, ⟨f', h2⟩, h3⟩ => ⟨h1, h3, _, _, _, _, h2⟩
theorem node_no (h : GS w z S p cs L) (hi : In64 i) (hn : nd L i = none) :
    Calls Tryz.prog 11 #[ptr p, .int .i64 i] w fun e w' => e = .returned (.tuple #[.agg #[.int .i64 0, .int .i64 0, .slice none 0 0, .slice none 0 0, .bool false], .int .i64 7]) ∧ Grow w w' := by
  obtain ⟨m, tb, f, ow, h⟩ := h
  exact node_none h hi hn
/-- A node that is told: its lists are new, and apart. -/
def Told (w : World) (base : Nat) (x : Nd) (ar : Option Addr) (cr : Nat) (ad : Option Addr) (cd : Nat) : Prop :=
  w.ownsRow base 3 1 (.slice ar x.refs.length cr) x.refs.length (ints x.refs) ∧ w.ownsRow base 3 1 (.slice ad x.data.length cd) x.data.length (ints x.data) ∧
    ∀ k, (Value.slice ar x.refs.length cr).ownBlock = some k → (Value.slice ad x.data.length cd).ownBlock ≠ some k
abbrev ndV (x : Nd) (ar : Option Addr) (cr : Nat) (ad : Option Addr) (cd : Nat) : Value := .agg #[.int .i64 x.id, .int .i64 x.c, .slice ar x.refs.length cr, .slice ad x.data.length cd, .bool x.fin]
theorem node_yes (h : GS w z S p cs L) (hi : In64 i) (hn : nd L i = some x) :
    Calls Tryz.prog 11 #[ptr p, .int .i64 i] w fun e w' => ∃ ar cr ad cd, e = .returned (.tuple #[ndV x ar cr ad cd, .int .i64 0]) ∧ Told w' w.heap.size x ar cr ad cd ∧ Grow w w' := by
  obtain ⟨m, tb, f, ow, h⟩ := h
  exact (node_some h hi hn).mono fun e w' ⟨ar, cr, ad, cd, h1, h2, h3, h4, h5⟩ => ⟨ar, cr, ad, cd, h1, ⟨h2, h3, h4⟩, h5⟩
theorem aim_gs (h : GS w z S p cs L) (hi : In64 i) :
    Calls Tryz.prog 38 #[ptr p, .int .i64 i] w fun e w' => e = .returned (.tuple #[.int .i64 (aimX cs L i).1, .int .i64 (aimX cs L i).2]) ∧ Grow w w' := by
  obtain ⟨m, tb, f, ow, h⟩ := h
  exact aim_any h hi
theorem holds_gs (h : GS w z S p cs L) (hi : In64 i) :
    Calls Tryz.prog 94 #[ptr p, .int .i64 i] w fun e w' => ∃ a cap, e = .returned (.slice a (hldX cs L i).length cap) ∧ w'.ownsRow w.heap.size 3 1 (.slice a (hldX cs L i).length cap) (hldX cs L i).length (ints (hldX cs L i)) ∧ Grow w w' := by
  obtain ⟨m, tb, f, ow, h⟩ := h
  exact holds_g h hi
theorem ids_gs (h : GS w z S p cs L) (hl : L.length < 1000000) :
    Calls Tryz.prog 15 #[ptr p] w fun e w' => ∃ a cap, e = .returned (.slice a L.length cap) ∧ w'.ownsRow w.heap.size 3 1 (.slice a L.length cap) L.length (ints (L.map Nd.id)) ∧ Grow w w' := by
  obtain ⟨m, tb, f, ow, h⟩ := h
  exact (ids_any h hl).mono fun e w' ⟨v, h1, h2, h3⟩ => by
    obtain ⟨a, cap, rfl⟩ := own_len h2
    exact ⟨a, cap, h1, h2, h3⟩
theorem adL_len (cs : List Cl) (L : List Nd) (i c l : Int) : (adL cs L i c l).length ≤ L.length + 1 := by
  unfold adL
  split
  · rw [ins_len]; omega
  · omega
theorem updN_len (L : List Nd) (i : Int) (g : Nd → Nd) : (updN L i g).length = L.length := by simp [updN]
theorem srL_len (L : List Nd) (i k t : Int) : (srL L i k t).length = L.length := by
  unfold srL
  split
  · exact updN_len _ _ _
  · rfl
theorem snL_len (L : List Nd) (i k t : Int) : (snL L i k t).length = L.length := by
  unfold snL
  split
  · exact updN_len _ _ _
  · rfl
theorem dnL_len (L : List Nd) (i : Int) : (dnL L i).length = L.length := by
  unfold dnL
  split
  · exact updN_len _ _ _
  · rfl
end
end Go.Proofs.YtjfpjnhlnoiekaaGreat.L9
