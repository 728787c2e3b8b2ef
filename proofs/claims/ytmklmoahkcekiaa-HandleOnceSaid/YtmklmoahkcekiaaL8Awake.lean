/- 'awake' of the laws of package handle answers true. Conditions: none. -/
import Derived.Test.YtmklmoahkcekiaaL8Len
namespace Go.Proofs.Ytmklmoahkcekiaa.L8
open Go.ChangeShapes Go.WideShapes Go.ChangeAt Go.RowKit
set_option linter.unusedVariables false

theorem build_zero (w : World) : (zeroValue 29).run Try.prog w = .ok (.agg (zc 64).toArray) w := by kernel_rfl
/-- The zero table under a letter: what 'new' builds, and what lies there then. -/
theorem zero_is : ∃ A : Array Value, (∀ w, (zeroValue 29).run Try.prog w = .ok (.agg A) w) ∧ Hid (∀ w : World, Tb (w.alloc (.cells A 29)) w.heap.size fun _ => zero) :=
  ⟨_, build_zero, hide fun w => Tb.zero (Blk.new w _ _)⟩
theorem zero_bd (n : Nat) : Bd (fun _ => zero) n := fun i _ => Nat.zero_le _
/-- Calls that change blocks that the function itself has made. -/
theorem _root_.Go.Proofs.Ytmklmoahkcekiaa.Chg.new {a b c : World} {g : Nat} (h : Grow a b) (hg : a.heap.size ≤ g) (k : Chg (· = g) b c) : Grow a c := h.step k fun i hi e => by subst e; omega

theorem Bd.upd {S : Nat → Sl} {n i : Nat} {s : Sl} (h : Bd S n) (he : s.e ≤ n) : Bd (upd S i s) n := fun j hj => by
  unfold L8.upd
  split
  · exact he
  · exact h j hj
set_option maxHeartbeats 1000000 in
theorem awake_any (w : World) : Calls Try.prog 9 #[] w fun e w' => e = .returned (.bool true) ∧ Grow w w' := by
  obtain ⟨A, hz, HZ⟩ := zero_is
  go_enter Try.func9, Try.ntmps9
  go_wp2_with fail
  have h := HZ.out w
  have cc := Grow.box w (.cells A 29)
  clear HZ hz
  generalize w.alloc (.cells A 29) = w0 at *
  obtain ⟨g, hg⟩ : ∃ g, w.heap.size = g := ⟨_, rfl⟩
  have HG := hide (Nat.le_of_eq hg)
  rw [hg] at h ⊢
  clear hg
  have b0 := zero_bd 1000000
  refine (new_at h b0 0 (by omega) (fun j hj => absurd hj (by omega)) rfl 7).mono ?_
  rintro e w1 ⟨rfl, h1, c1⟩
  have b1 := b0.upd (i := 0) (s := ⟨0, true, 7⟩) (by simp)
  replace cc := cc.new HG.out c1
  go_wp2_with fail
  refine (new_at h1 b1 1 (by omega) (by decide) rfl 8).mono ?_
  rintro e w2 ⟨rfl, h2, c2⟩
  have b2 := b1.upd (i := 1) (s := ⟨0, true, 8⟩) (by simp)
  replace cc := cc.new HG.out c2
  go_wp2_with fail
  refine (drop_yes h2 b2 (x := 1) (i := 0) ⟨by omega, rfl, rfl⟩).mono ?_
  rintro e w3 ⟨rfl, h3, c3⟩
  have b3 := b2.upd (i := 0) (s := ⟨1, false, 0⟩) (by simp)
  replace cc := cc.new HG.out c3
  go_wp2_with fail
  refine (new_at h3 b3 0 (by omega) (fun j hj => absurd hj (by omega)) rfl 9).mono ?_
  rintro e w4 ⟨rfl, h4, c4⟩
  replace cc := cc.new HG.out c4
  clear h h1 h2 h3 h4 b0 b1 b2 b3 c1 c2 c3 c4
  go_wp2
  go_ret
  exact ⟨rfl, cc⟩
end Go.Proofs.Ytmklmoahkcekiaa.L8
