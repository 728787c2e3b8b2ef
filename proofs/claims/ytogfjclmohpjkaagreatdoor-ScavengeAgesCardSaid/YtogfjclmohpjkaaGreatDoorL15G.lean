/- A region that draws its order, whose operations but the last one only make new memory, and whose last one waits for all of them: it is walked once, in the order of the text. Conditions: no operation has a guard; nothing here speaks of the program. -/
import Derived.StillTail
import Derived.Test.YtogfjclmohpjkaaGreatDoorGrow
namespace Go.Proofs.YtogfjclmohpjkaaGreatDoor
open Go.ChangeShapes Go.WideShapes Go.ChangeAt Go.RowKit
set_option linter.unusedVariables false
/-- No guards, and each operation waits for earlier ones only. -/
def backB (ops : Array Oper) : Bool := (List.range ops.size).all fun j => match ops[j]? with
  | some o => o.guard.isNone && o.after.all fun e => decide (e.on < j)
  | none => true
def ltB (l : List Oper) (n : Nat) : Bool := backB l.toArray && (decide (l.length = n + 1) && (Region.sinkB .any l.toArray n && (Region.chainB .any l.toArray n && Region.lexB .any (l.take n).toArray)))
section
variable {P : Program} {md : Region.Mode} {C : World → Prop}
theorem backB_at {ops : Array Oper} (h : backB ops = true) {j : Nat} {o : Oper} (ho : ops[j]? = some o) : o.guard = none ∧ ∀ e ∈ o.after, e.on < j := by
  have hj : j < ops.size := (Array.getElem?_eq_some_iff.1 ho).1
  have := List.all_eq_true.1 h j (List.mem_range.2 hj)
  simp only [ho, Bool.and_eq_true, Option.isNone_iff_eq_none] at this
  exact ⟨this.1, fun e he => of_decide_eq_true (List.all_eq_true.1 (Array.all_toList ▸ this.2 : o.after.toList.all _ = true) e (by simpa using he))⟩
variable {l : List Oper} {n : Nat} {listed lH lF : Array Bool} {Lq : Act → Prop} {Q : Exit → Act → World → Prop}
theorem ready_ne {ops : Array Oper} (hb : backB ops = true) {k : Nat} (hk : k < ops.size) (hl : listed.size = ops.size) (hu : listed.getD k true = false) : Region.ready md ops listed ≠ [] := by
  induction k using Nat.strongRecOn with
  | _ k ih =>
    obtain ⟨o, ho⟩ : ∃ o, ops[k]? = some o := ⟨ops[k], by simp [hk]⟩
    by_cases h : ∃ e ∈ o.after, Region.binds md e = true ∧ listed.getD e.on false = false
    · obtain ⟨e, he, _, h2⟩ := h
      have hlt := (backB_at hb ho).2 e he
      exact ih e.on hlt (by omega) (getD_in (by omega) h2)
    · intro h0
      have : k ∈ Region.ready md ops listed := mem_ready.2 ⟨hu, o, ho, fun e he hbd => by
        cases h2 : listed.getD e.on false with
        | true => rfl
        | false => exact absurd ⟨e, he, hbd, h2⟩ h⟩
      rw [h0] at this
      cases this
theorem ready_nil {ops : Array Oper} (h : ∀ i, i < ops.size → listed.getD i true = true) : Region.ready md ops listed = [] := by
  refine List.eq_nil_iff_forall_not_mem.2 fun i hi => ?_
  obtain ⟨h0, o, ho, _⟩ := mem_ready.1 hi
  rw [h i (Array.getElem?_eq_some_iff.1 ho).1] at h0
  cases h0
theorem quiet_end {ops : Array Oper} : ∀ {f : Nat} {a : Act}, wpAnyQ P md ops C Lq f listed a → Region.ready md ops listed = [] → Lq a
  | 0, _, h, _ => h.2
  | _ + 1, _, h, h0 => h.1 h0
theorem any_end {ops : Array Oper} : ∀ {f : Nat} {a : Act} {w : World}, Region.ready md ops listed = [] → Q .normal a w → wpAny P md ops Q f listed a w
  | 0, _, _, h0, h => ⟨h0, h⟩
  | _ + 1, _, _, h0, h => ⟨fun _ => h, by rw [h0]; intro i hi; cases hi⟩
theorem head_then_ready (hb : backB l.toArray = true) (hl : l.length = n + 1) {i : Nat} (hi : i ∈ Region.ready md l.toArray lF) (hlt : i < n) (h2 : ∀ i, i < n → lF[i]? = lH[i]?) : i ∈ Region.ready md (l.take n).toArray lH := by
  obtain ⟨h0, o, ho, hall⟩ := mem_ready.1 hi
  have hd : ∀ {j : Nat} {d : Bool}, j < n → lF.getD j d = lH.getD j d := fun hj => by
    simp only [Array.getD_eq_getD_getElem?, h2 _ hj]
  exact mem_ready.2 ⟨by rw [← hd hlt]; exact h0, o, by rw [← ho]; simp [hlt], fun e he hbd => by
    have := (backB_at hb ho).2 e he
    rw [← hd (by omega)]
    exact hall e he hbd⟩
theorem head_then (hb : backB l.toArray = true) (hl : l.length = n + 1) (hs : Region.sinkB md l.toArray n = true) (hc : Region.chainB md l.toArray n = true)
    (hL : ∀ a w, C w → Lq a → wpList P l.toArray Q (l.drop n) a w) :
    ∀ (f : Nat) (lH lF : Array Bool) (a : Act) (w : World), lH.size = n → (∀ i, i < n → lF[i]? = lH[i]?) → HeadInv md l.toArray n lF → C w →
    wpAnyQ P md (l.take n).toArray C Lq f lH a → wpAny P md l.toArray Q (f + 1) lF a w := by
  have hsz : l.toArray.size = n + 1 := by simpa using hl
  have hat : ∀ i, i < n → (l.take n).toArray[i]? = l.toArray[i]? := fun i hi => by simp [hi]
  obtain ⟨o, ho⟩ : ∃ o, l.toArray[n]? = some o := ⟨l.toArray[n]'(by omega), by simp⟩
  have hdr : l.drop n = [o] := by
    have : l[n]? = some o := by simpa using ho
    obtain ⟨h1, h2⟩ := List.getElem?_eq_some_iff.1 this
    rw [List.drop_eq_getElem_cons h1, h2, List.drop_eq_nil_of_le (by omega)]
  have hd : ∀ {lH lF : Array Bool} {i : Nat} {d : Bool}, (∀ i, i < n → lF[i]? = lH[i]?) → i < n → lF.getD i d = lH.getD i d := fun h2 hi => by
    simp only [Array.getD_eq_getD_getElem?, h2 _ hi]
  have last : ∀ (k f : Nat) (lH lF : Array Bool) (a : Act) (w : World), (∀ i, i < n → lF[i]? = lH[i]?) → HeadInv md l.toArray n lF → lH.size = n → C w → wpAnyQ P md (l.take n).toArray C Lq f lH a → n ∈ Region.ready md l.toArray lF →
      wpOp P l.toArray Q n (wpAny P md l.toArray Q k (lF.setIfInBounds n true)) a w := by
    intro k f lH lF a w h2 inv h1 hw h hr
    have hall : ∀ i, i < n → lF.getD i true = true := fun i hi => by
      cases hc' : lF.getD i true with
      | true => rfl
      | false => exact absurd hr (tail_waits hs hc (by omega) inv (n - i) i rfl hi hc' n (Nat.le_refl _))
    have hq : Lq a := quiet_end h (ready_nil fun i hi => by
      have hi : i < n := by simpa using Nat.lt_of_lt_of_le hi (by simp; omega)
      rw [← hd h2 hi]; exact hall i hi)
    have hx : wpOp P l.toArray Q n (wpList P l.toArray Q []) a w := by
      have := hL a w hw hq
      rw [hdr] at this
      unfold wpOp
      simp only [ho]
      exact this
    refine wpOp_mono (fun a' w' hq' => any_end (ready_nil fun i hi => ?_) hq') hx
    by_cases e : n = i
    · subst e
      have : n < lF.size := by rw [inv.size]; omega
      simp [this]
    · rw [getD_set_ne true e]
      exact hall i (by omega)
  intro f
  induction f with
  | zero =>
    intro lH lF a w h1 h2 inv hw h
    refine ⟨fun h0 => absurd h0 (ready_ne hb (k := n) (by omega) inv.size (inv.tail n (Nat.le_refl _) (by omega))), fun i hi => ?_⟩
    rcases Nat.lt_or_ge i n with hlt | hge
    · exact absurd (h.1 ▸ head_then_ready hb hl hi hlt h2 : i ∈ ([] : List Nat)) (by simp)
    · have : i < n + 1 := by have := (mem_ready.1 hi).2; obtain ⟨o', ho', _⟩ := this; rw [← hsz]; exact (Array.getElem?_eq_some_iff.1 ho').1
      obtain rfl : i = n := by omega
      exact last _ _ _ _ _ _ h2 inv h1 hw h hi
  | succ f ih =>
    intro lH lF a w h1 h2 inv hw h
    refine ⟨fun h0 => absurd h0 (ready_ne hb (k := n) (by omega) inv.size (inv.tail n (Nat.le_refl _) (by omega))), fun i hi => ?_⟩
    rcases Nat.lt_or_ge i n with hlt | hge
    · have hq := h.2 i (head_then_ready hb hl hi hlt h2)
      obtain ⟨_, oi, hoi, _⟩ := mem_ready.1 hi
      have hw1 : ∀ (ops : Array Oper), Region.wanted oi (yielded ops a.tmps) = true := fun ops => by simp [Region.wanted, (backB_at hb hoi).1]
      unfold qOp at hq
      simp only [hat i hlt, hoi, hw1, if_true] at hq
      unfold wpOp
      simp only [hoi, hw1, if_true]
      refine .inl (Oper.wp_of_quiet hw (fun a' w' hw' hk => ih _ _ a' w' (by simp [h1]) (fun j hj => ?_) (inv.set hi hlt) hw' hk) hq)
      by_cases e : i = j
      · subst e
        have b1 : i < lF.size := by rw [inv.size]; omega
        have b2 : i < lH.size := by omega
        simp [b1, b2]
      · rw [Array.getElem?_setIfInBounds_ne e, Array.getElem?_setIfInBounds_ne e]
        exact h2 j hj
    · have : i < n + 1 := by have := (mem_ready.1 hi).2; obtain ⟨o', ho', _⟩ := this; rw [← hsz]; exact (Array.getElem?_eq_some_iff.1 ho').1
      obtain rfl : i = n := by omega
      exact last _ _ _ _ _ _ h2 inv h1 hw h hi
theorem wp_region_grow_tail {id : Nat} {a : Act} {w : World} (n : Nat) (hm : P.follows .mixedOrders = true) (hB : ltB l n = true)
    (h : wpQuiet P (l.take n).toArray (Grow w) (fun a' => ∀ w', Grow w w' → wpList P l.toArray Q (l.drop n) a' w') (l.take n) a) : (Code.region id l.toArray true).wp P Q a w := by
  simp only [ltB, Bool.and_eq_true, decide_eq_true_eq] at hB
  obtain ⟨hb, hl, hs, hc, hx⟩ := hB
  simp only [Region.lexB, Bool.and_eq_true] at hx
  have hsz : (l.take n).length = n := by simp; omega
  have inv0 : HeadInv .any l.toArray n (Array.replicate l.toArray.size false) :=
    ⟨by simp, fun j oj _ hl => (by rw [getD_replicate_false] at hl; cases hl), fun t _ ht => getD_in (by simpa using ht) (getD_replicate_false _ _)⟩
  have H := wpAnyQ_lex (P := P) (C := Grow w) (md := .any) (Q := fun a' => ∀ w', Grow w w' → wpList P l.toArray Q (l.drop n) a' w') hx.1 (l.take n) 0 (Array.replicate (l.take n).toArray.size false) a (by simp) (by simpa using hx.2) h
  refine wp_region_any hm ?_
  have := head_then (Q := Q) hb hl hs hc (fun a w' hw hq => hq w' hw) _ _ (Array.replicate l.toArray.size false) a { w with drawn := w.drawn + 1 } (by simpa using hsz) (fun i hi => by rw [Array.getElem?_replicate, Array.getElem?_replicate, if_pos (by rw [List.size_toArray]; omega), if_pos (by rw [List.size_toArray, hsz]; exact hi)]) inv0 ⟨rfl, rfl, rfl, Nat.le_refl _, fun _ _ _ => rfl⟩ H
  rw [hsz] at this
  simpa [hl] using this
end
end Go.Proofs.YtogfjclmohpjkaaGreatDoor
