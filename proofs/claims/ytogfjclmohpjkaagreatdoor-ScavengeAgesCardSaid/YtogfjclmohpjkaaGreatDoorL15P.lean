/- What is reached from some addresses, in the order in which it is come to, and the text that tells it wherever it lies: pure facts. Conditions: none; nothing here speaks of the program. -/
import Derived.Test.YtogfjclmohpjkaaGreatDoorKit
namespace Go.Proofs.YtogfjclmohpjkaaGreatDoor.L15
set_option linter.unusedVariables false

/-- An object as it is thought of: its head, its length, its references, its numbers. -/
structure Ob where
  C : Int
  A : Int
  F : Int
  m : Bool
  f : Bool
  d : Bool
  l : Int
  rs : List Int
  ds : List Int
def Ob.sz (o : Ob) : Nat := 2 + o.rs.length + o.ds.length
def ob00 : Ob := ⟨0, 0, 0, false, false, false, 0, [], []⟩

/-- One more, if it is no 0 and not there. -/
def addN (out : List Int) (x : Int) : List Int := if x ≠ 0 ∧ x ∉ out then out ++ [x] else out
def adds (out xs : List Int) : List Int := xs.foldl addN out
/-- What is come to from the i-th on. -/
inductive Bf (E : Int → List Int) : List Int → Nat → List Int → Prop
  | done (out : List Int) (i : Nat) (h : out.length ≤ i) : Bf E out i out
  | step (out : List Int) (i : Nat) (res : List Int) (h : i < out.length) (k : Bf E (adds out (E (out.getD i 0))) (i + 1) res) : Bf E out i res
theorem Bf.inv {E : Int → List Int} {out res : List Int} {i : Nat} (h : Bf E out i res) : (out.length ≤ i ∧ res = out) ∨ (i < out.length ∧ Bf E (adds out (E (out.getD i 0))) (i + 1) res) := by
  cases h with
  | done _ _ h => exact .inl ⟨h, rfl⟩
  | step _ _ _ h k => exact .inr ⟨h, k⟩
/-- A number's place among some; below 0: it isn't there. -/
def place : List Int → Int → Int
  | [], _ => -1
  | a :: l, x => if a = x then 0 else if place l x = -1 then -1 else place l x + 1

section
variable {E E' : Int → List Int} {out res xs l : List Int} {i j : Nat} {x y : Int} {D : Int → Prop} {ph : Int → Int}
theorem place_bd (l : List Int) (x : Int) : -1 ≤ place l x := by
  induction l with
  | nil => exact Int.le_refl _
  | cons a l ih =>
    unfold place
    split
    · omega
    · split <;> omega
theorem place_no (h : ∀ j, j < l.length → l.getD j 0 ≠ x) : place l x = -1 := by
  induction l with
  | nil => rfl
  | cons a l ih =>
    have ha : a ≠ x := by simpa using h 0 (by simp)
    unfold place
    rw [if_neg ha, if_pos (ih fun j hj => by simpa using h (j + 1) (by simpa using hj))]
theorem place_at (hj : j < l.length) (e : l.getD j 0 = x) (h : ∀ k, k < j → l.getD k 0 ≠ x) : place l x = j := by
  induction l generalizing j with
  | nil => simp at hj
  | cons a l ih =>
    cases j with
    | zero =>
      have e : a = x := by simpa using e
      unfold place
      rw [if_pos e]
      rfl
    | succ j =>
      have ha : a ≠ x := by simpa using h 0 (by omega)
      have := ih (j := j) (by simpa using hj) (by simpa using e) (fun k hk => by simpa using h (k + 1) (by omega))
      unfold place
      rw [if_neg ha, this, if_neg (by omega)]
      omega
theorem place_map (hin : ∀ z ∈ l, ph z = ph x → z = x) : place (l.map ph) (ph x) = place l x := by
  induction l with
  | nil => rfl
  | cons a l ih =>
    have ih := ih fun z hz => hin z (List.mem_cons_of_mem _ hz)
    rw [List.map_cons]
    unfold place
    rw [ih]
    by_cases ha : a = x
    · rw [if_pos ha, if_pos (by rw [ha])]
    · rw [if_neg ha, if_neg fun e => ha (hin a (List.mem_cons_self ..) e)]
theorem adds_nil : adds out [] = out := rfl
theorem adds_cons : adds out (x :: xs) = adds (addN out x) xs := rfl
theorem addN_sub (h : y ∈ out) : y ∈ addN out x := by
  unfold addN; split
  · exact List.mem_append_left _ h
  · exact h
theorem adds_sub (xs : List Int) : ∀ {out : List Int}, y ∈ out → y ∈ adds out xs := by
  induction xs with
  | nil => intro out h; exact h
  | cons a xs ih => intro out h; exact ih (addN_sub h)
theorem addN_D (h : ∀ z ∈ out, D z) (hx : x ≠ 0 → D x) : ∀ z ∈ addN out x, D z := by
  unfold addN; split
  · rename_i hc
    intro z hz
    rcases List.mem_append.1 hz with hz | hz
    · exact h z hz
    · rw [List.mem_singleton.1 hz]; exact hx hc.1
  · exact h
theorem adds_D (xs : List Int) : ∀ {out : List Int}, (∀ z ∈ out, D z) → (∀ x ∈ xs, x ≠ 0 → D x) → ∀ z ∈ adds out xs, D z := by
  induction xs with
  | nil => intro out h _; exact h
  | cons a xs ih => intro out h hx; exact ih (addN_D h (hx a (List.mem_cons_self ..))) fun x hm => hx x (List.mem_cons_of_mem _ hm)
theorem addN_nodup (h : out.Nodup) : (addN out x).Nodup := by
  unfold addN; split
  · rename_i hc
    rw [List.nodup_append]
    refine ⟨h, List.nodup_cons.2 ⟨by simp, List.nodup_nil⟩, fun a ha b hb e => ?_⟩
    rw [List.mem_singleton.1 hb] at e
    exact hc.2 (e ▸ ha)
  · exact h
theorem adds_nodup (xs : List Int) : ∀ {out : List Int}, out.Nodup → (adds out xs).Nodup := by
  induction xs with
  | nil => intro out h; exact h
  | cons a xs ih => intro out h; exact ih (addN_nodup h)
theorem addN_len : out.length ≤ (addN out x).length := by
  unfold addN; split
  · simp
  · exact Nat.le_refl _
theorem adds_len (xs : List Int) : ∀ {out : List Int}, out.length ≤ (adds out xs).length := by
  induction xs with
  | nil => intro out; exact Nat.le_refl _
  | cons a xs ih => intro out; exact Nat.le_trans addN_len ih
theorem adds_take {k : Nat} (hk : k < xs.length) : adds out (xs.take (k + 1)) = addN (adds out (xs.take k)) (xs.getD k 0) := by
  rw [List.take_add_one, List.getElem?_eq_getElem hk, List.getD_eq_getElem?_getD, List.getElem?_eq_getElem hk]
  simp only [adds, List.foldl_append, Option.toList_some, List.foldl_cons, List.foldl_nil, Option.getD_some]
theorem addN_map (h0 : ph 0 = 0) (hi : ∀ z, z ∈ out ∨ z = 0 → ph z = ph x → z = x) : addN (out.map ph) (ph x) = (addN out x).map ph := by
  unfold addN
  by_cases hx : x = 0
  · rw [hx, h0, if_neg (by simp), if_neg (by simp)]
  · have h1 : ph x ≠ 0 := fun e => hx (hi 0 (.inr rfl) (by rw [h0, e])).symm
    by_cases hm : x ∈ out
    · rw [if_neg (fun hc => hc.2 (List.mem_map_of_mem hm)), if_neg (fun hc => hc.2 hm)]
    · have hno : ph x ∉ out.map ph := fun hc => by
        obtain ⟨z, hz, e⟩ := List.mem_map.1 hc
        exact hm (hi z (.inl hz) e ▸ hz)
      rw [if_pos ⟨h1, hno⟩, if_pos ⟨hx, hm⟩, List.map_append]
      rfl
/-- phi may be told apart on what D says, and on 0. -/
structure Inj (D : Int → Prop) (ph : Int → Int) : Prop where
  z : ph 0 = 0
  i : ∀ a b, (a = 0 ∨ D a) → (b = 0 ∨ D b) → ph a = ph b → a = b
theorem adds_map (hj : Inj D ph) (xs : List Int) : ∀ {out : List Int}, (∀ z ∈ out, D z) → (∀ x ∈ xs, x = 0 ∨ D x) → adds (out.map ph) (xs.map ph) = (adds out xs).map ph := by
  induction xs with
  | nil => intro out _ _; rfl
  | cons a xs ih =>
    intro out h hx
    have ha := hx a (List.mem_cons_self ..)
    rw [List.map_cons, adds_cons, adds_cons, addN_map hj.z (fun z hz e => hj.i z a (hz.elim (fun h' => .inr (h z h')) .inl) ha e)]
    exact ih (addN_D h fun h0 => ha.resolve_left h0) fun x hm => hx x (List.mem_cons_of_mem _ hm)
theorem getD_map0 (h0 : ph 0 = 0) (l : List Int) (i : Nat) : (l.map ph).getD i 0 = ph (l.getD i 0) := by
  simp only [List.getD_eq_getElem?_getD, List.getElem?_map]
  cases l[i]? with
  | none => simp [h0]
  | some v => simp
theorem getD_in {l : List Int} {i : Nat} (hi : i < l.length) : l.getD i 0 ∈ l := by
  simp [List.getD_eq_getElem?_getD, hi]
theorem Bf.map (hj : Inj D ph) (hE : ∀ x, D x → E' (ph x) = (E x).map ph) (hc : ∀ x, D x → ∀ r ∈ E x, r = 0 ∨ D r) (h : Bf E out i res) (ho : ∀ z ∈ out, D z) : Bf E' (out.map ph) i (res.map ph) := by
  induction h with
  | done out i h => exact .done _ _ (by simpa using h)
  | step out i res h k ih =>
    have hd : D (out.getD i 0) := ho _ (getD_in h)
    refine .step _ _ _ (by simpa using h) ?_
    rw [getD_map0 hj.z, hE _ hd, adds_map hj _ ho (hc _ hd)]
    exact ih (adds_D _ ho fun x hx h0 => (hc _ hd x hx).resolve_left h0)
theorem Bf.sub (hc : ∀ x, D x → ∀ r ∈ E x, r = 0 ∨ D r) (h : Bf E out i res) (ho : ∀ z ∈ out, D z) : ∀ z ∈ res, D z := by
  induction h with
  | done out i h => exact ho
  | step out i res h k ih =>
    have hd : D (out.getD i 0) := ho _ (getD_in h)
    exact ih (adds_D _ ho fun x hx h0 => (hc _ hd x hx).resolve_left h0)
theorem Bf.det {res' : List Int} (h : Bf E out i res) (h' : Bf E out i res') : res' = res := by
  induction h generalizing res' with
  | done out i h =>
    rcases h'.inv with ⟨_, e⟩ | ⟨h2, _⟩
    · exact e
    · omega
  | step out i res h k ih =>
    rcases h'.inv with ⟨h2, _⟩ | ⟨_, k'⟩
    · omega
    · exact ih k'
theorem Bf.len (h : Bf E out i res) : out.length ≤ res.length := by
  induction h with
  | done out i h => exact Nat.le_refl _
  | step out i res h k ih => exact Nat.le_trans (adds_len _) ih
theorem Bf.nodup (h : Bf E out i res) (hn : out.Nodup) : res.Nodup := by
  induction h with
  | done out i h => exact hn
  | step out i res h k ih => exact ih (adds_nodup _ hn)
theorem nodup_len {L l : List Int} (hn : l.Nodup) (hs : ∀ x ∈ l, x ∈ L) : l.length ≤ L.length := by
  induction l generalizing L with
  | nil => exact Nat.zero_le _
  | cons a l ih =>
    obtain ⟨s, t, rfl⟩ := List.append_of_mem (hs a (List.mem_cons_self ..))
    have := ih (L := s ++ t) (List.nodup_cons.1 hn).2 (fun x hx => by
      have h1 := hs x (List.mem_cons_of_mem _ hx)
      have h2 : x ≠ a := fun e => (List.nodup_cons.1 hn).1 (e ▸ hx)
      simp [h2] at h1 ⊢
      exact h1)
    simp at this ⊢
    omega
theorem ex_bf {L : List Int} (hc : ∀ x ∈ L, ∀ r ∈ E x, r = 0 ∨ r ∈ L) : ∀ (n : Nat) (out : List Int) (i : Nat), L.length - i = n → out.Nodup → (∀ z ∈ out, z ∈ L) → ∃ res, Bf E out i res := by
  intro n
  induction n with
  | zero =>
    intro out i hn hd hs
    exact ⟨out, .done _ _ (by have := nodup_len hd hs; omega)⟩
  | succ n ih =>
    intro out i hn hd hs
    rcases Nat.lt_or_ge i out.length with hi | hi
    · have hl := hs _ (getD_in hi)
      obtain ⟨res, hr⟩ := ih (adds out (E (out.getD i 0))) (i + 1) (by omega) (adds_nodup _ hd) (adds_D _ hs fun x hx h0 => (hc _ hl x hx).resolve_left h0)
      exact ⟨res, .step _ _ _ hi hr⟩
    · exact ⟨out, .done _ _ hi⟩
end

/-- Whether it is Final, Done; what is told of an object; of all that is reached. -/
def flI (f d : Bool) : Int := (if f then 1 else 0) + (if d then 2 else 0)
def tell (p : Int → Int) (o : Ob) : List Int := [-2, o.C, o.l, flI o.f o.d] ++ (o.rs.map p ++ o.ds)
def canL (ob : Int → Ob) (fr res : List Int) : List Int := fr.map (place res) ++ res.flatMap fun a => tell (place res) (ob a)
abbrev Rch (ob : Int → Ob) (fr res : List Int) : Prop := Bf (fun a => (ob a).rs) (adds [] fr) 0 res
/-- Closed: references lead to what D says, or nowhere. -/
def Clo (ob : Int → Ob) (D : Int → Prop) : Prop := ∀ x, D x → ∀ r ∈ (ob x).rs, r = 0 ∨ D r
/-- What is at phi of an object is the same, with its references led on. -/
structure Iso (ob ob' : Int → Ob) (D : Int → Prop) (ph : Int → Int) : Prop where
  j : Inj D ph
  c : Clo ob D
  t : ∀ x, D x → (ob' (ph x)).C = (ob x).C ∧ (ob' (ph x)).l = (ob x).l ∧ (ob' (ph x)).f = (ob x).f ∧ (ob' (ph x)).d = (ob x).d ∧ (ob' (ph x)).ds = (ob x).ds ∧ (ob' (ph x)).rs = (ob x).rs.map ph
section
variable {ob ob' : Int → Ob} {D : Int → Prop} {ph : Int → Int} {fr res : List Int}
theorem Iso.reach (h : Iso ob ob' D ph) (hr : Rch ob fr res) (hf : ∀ x ∈ fr, x = 0 ∨ D x) : Rch ob' (fr.map ph) (res.map ph) := by
  have h1 : ∀ z ∈ adds [] fr, D z := adds_D _ (fun z hz => by cases hz) fun x hx h0 => (hf x hx).resolve_left h0
  have := Bf.map (E' := fun a => (ob' a).rs) h.j (fun x hx => (h.t x hx).2.2.2.2.2) h.c hr h1
  rw [← adds_map h.j _ (fun z hz => by cases hz) hf] at this
  exact this
theorem reach_D (hc : Clo ob D) (hr : Rch ob fr res) (hf : ∀ x ∈ fr, x = 0 ∨ D x) : ∀ z ∈ res, D z :=
  Bf.sub hc hr (adds_D _ (fun z hz => by cases hz) fun x hx h0 => (hf x hx).resolve_left h0)
theorem Iso.can (h : Iso ob ob' D ph) (hr : Rch ob fr res) (hf : ∀ x ∈ fr, x = 0 ∨ D x) : canL ob' (fr.map ph) (res.map ph) = canL ob fr res := by
  have hD := reach_D h.c hr hf
  have hp : ∀ x, x = 0 ∨ D x → place (res.map ph) (ph x) = place res x := fun x hx => place_map fun z hz e => h.j.i z x (.inr (hD z hz)) hx e
  unfold canL
  congr 1
  · rw [List.map_map]
    exact List.map_congr_left fun x hx => hp x (hf x hx)
  · rw [List.flatMap_map]
    have : ∀ l : List Int, (∀ z ∈ l, D z) → l.flatMap (fun a => tell (place (res.map ph)) (ob' (ph a))) = l.flatMap fun a => tell (place res) (ob a) := by
      intro l hl
      induction l with
      | nil => rfl
      | cons a l ih =>
        rw [List.flatMap_cons, List.flatMap_cons, ih fun z hz => hl z (List.mem_cons_of_mem _ hz)]
        congr 1
        have ha := hl a (List.mem_cons_self ..)
        obtain ⟨t1, t2, t3, t4, t5, t6⟩ := h.t a ha
        unfold tell
        rw [t1, t2, t3, t4, t5, t6, List.map_map]
        congr 2
        exact List.map_congr_left fun x hx => hp x (h.c a ha x hx)
    exact this res hD
theorem ex_rch {L : List Int} (hc : ∀ x ∈ L, ∀ r ∈ (ob x).rs, r = 0 ∨ r ∈ L) (hf : ∀ x ∈ fr, x = 0 ∨ x ∈ L) : ∃ res, Rch ob fr res :=
  ex_bf (E := fun a => (ob a).rs) hc _ _ _ rfl (adds_nodup _ List.nodup_nil) (adds_D _ (fun z hz => by cases hz) fun x hx h0 => (hf x hx).resolve_left h0)
end

/-- The words of some objects together. -/
def szs (ob : Int → Ob) (L : List Int) : Nat := (L.map fun a => (ob a).sz).sum
section
variable {ob ob' : Int → Ob} {L M s t : List Int} {a : Int}
theorem szs_nil : szs ob [] = 0 := rfl
theorem szs_cons : szs ob (a :: L) = (ob a).sz + szs ob L := by simp [szs]
theorem szs_app : szs ob (L ++ M) = szs ob L + szs ob M := by simp [szs, List.sum_append]
theorem szs_sub (hn : M.Nodup) (hs : ∀ x ∈ M, x ∈ L) : szs ob M ≤ szs ob L := by
  induction M generalizing L with
  | nil => exact Nat.zero_le _
  | cons a M ih =>
    obtain ⟨s, t, rfl⟩ := List.append_of_mem (hs a (List.mem_cons_self ..))
    have := ih (L := s ++ t) (List.nodup_cons.1 hn).2 (fun x hx => by
      have h1 := hs x (List.mem_cons_of_mem _ hx)
      have h2 : x ≠ a := fun e => (List.nodup_cons.1 hn).1 (e ▸ hx)
      simp [h2] at h1 ⊢
      exact h1)
    rw [szs_app] at this
    rw [szs_cons, szs_app, szs_cons]
    omega
theorem szs_congr (h : ∀ x ∈ L, (ob x).sz = (ob' x).sz) : szs ob L = szs ob' L := by
  unfold szs
  rw [List.map_congr_left h]
end
end Go.Proofs.YtogfjclmohpjkaaGreatDoor.L15
