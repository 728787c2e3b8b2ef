/- What QueueForgets does to a set, as lists. Conditions: none; nothing here speaks of the program. -/
import Derived.Test.YtgaoodjlcjmomaaL12Cls
import Derived.Test.YtgaoodjlcjmomaaL12Fv
namespace Go.Proofs.Ytgaoodjlcjmomaa.L12
open Go.ChangeShapes Go.WideShapes Go.ChangeAt Go.RowKit
set_option linter.unusedVariables false
/-- One more, unless it is there. -/
def adE (E : List Int) (x : Int) : List Int := if x ∈ E then E else E ++ [x]
section
variable {E D R P : List Int} {x : Int}
theorem fg_put (E : List Int) (x : Int) : puQ (upd noQ 0 E) E 1 x = upd noQ 0 (adE E x) ∧ puE E 1 x = adE E x := by
  by_cases h : x ∈ E
  · have hb : puB E 1 x = false := by unfold puB; rw [decide_eq_true h]; rfl
    unfold puQ puE adE
    rw [hb, if_pos h]
    exact ⟨rfl, rfl⟩
  · have hb : puB E 1 x = true := by unfold puB; rw [decide_eq_false h]; rfl
    unfold puQ puE adE
    rw [hb, if_neg h, if_pos rfl, if_pos rfl]
    refine ⟨?_, rfl⟩
    rw [show pl 1 = 0 from rfl, upd_at, upd_upd]
theorem adE_nodup (h : E.Nodup) (x : Int) : (adE E x).Nodup := by
  unfold adE
  split
  · exact h
  · rename_i hx
    refine List.nodup_append.2 ⟨h, by simp, fun a ha b hb => ?_⟩
    simp at hb
    rw [hb]
    rintro rfl
    exact hx ha
theorem adE_mem {p : Int → Prop} (h : ∀ y ∈ E, p y) (hx : p x) : ∀ y ∈ adE E x, p y := by
  unfold adE
  split
  · exact h
  · intro y hy
    rcases List.mem_append.1 hy with hy | hy
    · exact h y hy
    · simp at hy; rw [hy]; exact hx
theorem adE_len (E : List Int) (x : Int) : (adE E x).length ≤ E.length + 1 := by
  unfold adE
  split <;> simp
theorem one_few {N : Nat} (h : E.length ≤ N) : Few (upd noQ 0 E) E N := by
  refine ⟨h, fun j _ => ?_⟩
  by_cases e : j = 0
  · rw [e, upd_at]; exact h
  · rw [upd_ne _ _ e]; exact Nat.zero_le _
theorem fg_poll (R : List Int) : poV (upd noQ 0 R) 1 = R.headD 0 ∧ poX (upd noQ 0 R) 1 = (if R = [] then 10 else 0) ∧ poQ (upd noQ 0 R) 1 = upd noQ 0 R.tail := by
  refine ⟨?_, ?_, ?_⟩
  · unfold poV; rw [show isQ 1 = true from rfl, if_pos rfl, show pl 1 = 0 from rfl, upd_at]
  · unfold poX; rw [show isQ 1 = true from rfl, if_pos rfl, show pl 1 = 0 from rfl, upd_at]
  · unfold poQ; rw [show isQ 1 = true from rfl, if_pos rfl, show pl 1 = 0 from rfl, upd_at, upd_upd]
theorem fg_cat (R : List Int) : cat (upd noQ 0 R) 4 = R := by simp [cat, upd]
theorem fg_map (R : List Int) : R.map (leftF R) = R := by
  have : R.map (leftF R) = R.map id := List.map_congr_left fun x hx => if_pos hx
  simpa using this
theorem fg_rnQ (R : List Int) : rnQ (leftF R) (upd noQ 0 R) = upd noQ 0 R := by
  funext i
  unfold rnQ
  by_cases e : i = 0
  · rw [e, upd_at]; exact fg_map R
  · rw [upd_ne _ _ e]; rfl
theorem fg_rnE (h : (D ++ R).Nodup) (h0 : ∀ x ∈ R, x ≠ 0) : rnE (leftF R) (upd noQ 0 R) (D ++ R) = R := by
  unfold rnE
  rw [fg_cat, List.filter_append, List.filter_eq_nil_iff.2, List.filter_eq_self.2, List.nil_append, fg_map]
  · intro x hx
    simp [hx]
  · intro x hx
    have hn : x ∉ R := fun hR => (List.nodup_append.1 h).2.2 x hx x hR rfl
    simp [hn, leftF]
/-- Behind the renaming: what is gone is put into queue 2. -/
def fgQ (R P : List Int) : Nat → List Int := upd (upd noQ 0 R) 1 P
theorem fgQ_nil (R : List Int) : fgQ R [] = upd noQ 0 R := by
  funext i
  unfold fgQ
  by_cases e : i = 1
  · rw [e, upd_at]; rfl
  · rw [upd_ne _ _ e]
theorem fg_put2 (h : x ∉ R ++ P) : puB (R ++ P) 2 x = true ∧ puQ (fgQ R P) (R ++ P) 2 x = fgQ R (P ++ [x]) ∧ puE (R ++ P) 2 x = R ++ (P ++ [x]) := by
  have hb : puB (R ++ P) 2 x = true := by unfold puB; rw [decide_eq_false h]; rfl
  refine ⟨hb, ?_, ?_⟩
  · unfold puQ
    rw [hb, if_pos rfl, show pl 2 = 1 from rfl]
    unfold fgQ
    rw [upd_at, upd_upd]
  · unfold puE
    rw [hb, if_pos rfl, List.append_assoc]
theorem fg_put3 (h : x ∈ R) : puB (R ++ P) 2 x = false ∧ puQ (fgQ R P) (R ++ P) 2 x = fgQ R P ∧ puE (R ++ P) 2 x = R ++ P := by
  have hb : puB (R ++ P) 2 x = false := by unfold puB; rw [decide_eq_true (List.mem_append_left _ h)]; rfl
  refine ⟨hb, ?_, ?_⟩
  · unfold puQ; rw [hb]; rfl
  · unfold puE; rw [hb]; rfl
theorem nodup_len : ∀ {P D : List Int}, P.Nodup → (∀ x ∈ P, x ∈ D) → P.length ≤ D.length
  | [], D, _, _ => Nat.zero_le _
  | p :: P, D, h, hs => by
    have hp := hs p List.mem_cons_self
    obtain ⟨h1, h2⟩ := List.nodup_cons.1 h
    have := nodup_len (D := D.erase p) h2 fun x hx => (List.mem_erase_of_ne (fun e => h1 (by rw [← e]; exact hx))).2 (hs x (List.mem_cons_of_mem _ hx))
    rw [List.length_erase_of_mem hp] at this
    have h3 : 0 < D.length := List.length_pos_of_mem hp
    simp
    omega
theorem fg_few {N : Nat} (hr : (D ++ R).length ≤ N) (hp : P.Nodup) (hs : ∀ x ∈ P, x ∈ D) : Few (fgQ R P) (R ++ P) N := by
  have h1 := nodup_len hp hs
  rw [List.length_append] at hr
  refine ⟨by rw [List.length_append]; omega, fun j _ => ?_⟩
  unfold fgQ
  by_cases e : j = 1
  · rw [e, upd_at]; omega
  · rw [upd_ne _ _ e]
    by_cases e : j = 0
    · rw [e, upd_at]; omega
    · rw [upd_ne _ _ e]; exact Nat.zero_le _
theorem fg_len1 (R P : List Int) : lnV (fgQ R P) 1 = R.length := by
  unfold lnV
  rw [show isQ 1 = true from rfl, if_pos rfl, show pl 1 = 0 from rfl]
  unfold fgQ
  rw [upd_ne _ _ (by omega), upd_at]
theorem fg_len2 (R P : List Int) : lnV (fgQ R P) 2 = P.length := by
  unfold lnV
  rw [show isQ 2 = true from rfl, if_pos rfl, show pl 2 = 1 from rfl]
  unfold fgQ
  rw [upd_at]
end
/-- The blocks that the law itself looks at: the iterator, the map, the box, the list. -/
def tB (r m b : Nat) (a : Option Addr) : Nat → Prop := fun k => k = r ∨ k = m ∨ k = b ∨ ∃ x, a = some x ∧ x.block = k
/-- What is gone. -/
def goneF (D : List Int) : Int → Option Bool := fun x => if x ∈ D then some true else none
theorem goneF_add (D : List Int) (x : Int) : (fun y => if y = x then some true else goneF D y) = goneF (D ++ [x]) := by
  funext y
  unfold goneF
  by_cases e : y = x
  · simp [e]
  · by_cases h : y ∈ D <;> simp [e, h]
section
variable {w : World} {m r cnt : Nat} {D : List Int} {left : Int → Bool} {ops : Array Oper} {rest : List Oper} {o : Oper} {a : Act} {Q : Exit → Act → World → Prop}
/-- The step of a range over what is gone. -/
theorem rg_gone (hg : o.guard = none) (it : Operand) (hop : o.op = Op.next it false) (hit : a.eval it = .pointer (some ⟨r, 0, none⟩)) (h : Rg eB w m r (goneF D) left cnt)
    (hDone : (∀ x, left x = false) → wpList Try.prog ops Q rest (a.put o.dst (.tuple #[.bool false])) w)
    (hMore : ∀ (x : Int) (w' : World) (cnt' : Nat), In64 x → left x = true → x ∈ D → Rg eB w' m r (goneF D) (fun y => left y && !decide (y = x)) cnt' → cnt' < cnt → Chg (· = r) w w' → w'.heap.size = w.heap.size →
      (Instr.entry (.pointer (some ⟨r, 0, none⟩))).run Try.prog w' = .ok (.tuple #[.int .i64 x, .bool true]) w' → wpList Try.prog ops Q rest (a.put o.dst (.tuple #[.bool true, .int .i64 x, .bool true])) w') :
    wpList Try.prog ops Q (o :: rest) a w := by
  refine rg_next eB_ok hg it hop hit h hDone fun x b w' cnt' h1 h2 h3 h4 h5 h6 h7 h8 => ?_
  have hx : x ∈ D ∧ b = true := by
    unfold goneF at h3
    split at h3
    · rename_i e
      injection h3 with h3
      exact ⟨e, h3.symm⟩
    · cases h3
  obtain ⟨hx, rfl⟩ := hx
  exact hMore x w' cnt' h1 h2 hx h4 h5 h6 h7 h8
end
end Go.Proofs.Ytgaoodjlcjmomaa.L12
