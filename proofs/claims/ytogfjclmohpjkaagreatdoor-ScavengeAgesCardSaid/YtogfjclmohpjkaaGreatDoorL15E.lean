/- What check is asked of a world that can be: its walk, its references. Conditions: none; Run's answer from all of it: the Old space has room, or not. -/
import Derived.Test.YtogfjclmohpjkaaGreatDoorL15Zo
namespace Go.Proofs.YtogfjclmohpjkaaGreatDoor.L15
open Go.ChangeShapes Go.WideShapes Go.ChangeAt Go.RowKit Go.Shelf
open Go.Proofs.YtogfjclmohpjkaaGreatDoor.L1 (ptr)
open Go.Proofs.YtogfjclmohpjkaaGreatDoor.L5 (Cl)
open Go.Proofs.YtogfjclmohpjkaaGreatDoor.L6 (stV St)
open Go.Proofs.YtogfjclmohpjkaaGreatDoor.L7 (Ct)
set_option linter.unusedVariables false
section
variable {f : Fx} {xs : List Int}
theorem Wf.wks (h : Wf f xs) : Wks xs f.cs f.y.s3 f.all 0 :=
  ⟨f.OS, 0, h.so.wk h.rt, .inr ⟨rfl, f.YS, ⟨f.YE, 0, h.se.wk h.rt, .inr ⟨rfl, f.YF, ⟨f.YF, 0, h.sf.wk h.rt, .inr ⟨rfl, [], ⟨rfl, rfl⟩, by simp⟩⟩, rfl⟩⟩, rfl⟩⟩
theorem sy_no {zs : List Int} {r : Int} (h : r = 0 ∨ r ∈ zs) : sy zs r = false := by
  unfold sy
  rcases h with h | h <;> simp [h]
theorem Wf.clo (h : Wf f xs) (hz : ∀ r ∈ f.zs, r = 0 ∨ r ∈ f.all) : cloB f.ob f.all f.zs = true := by
  have h1 : f.zs.any (sy f.all) = false := List.any_eq_false.2 fun r hr => by rw [sy_no (hz r hr)]; decide
  have h2 : f.all.any (fun x => (f.ob x).rs.any (sy f.all)) = false := List.any_eq_false.2 fun x hx => by
    rw [List.any_eq_false.2 fun r hr => by rw [sy_no (h.cl x hx r hr)]; decide]
    decide
  unfold cloB
  rw [h1, h2]
  rfl
theorem Wf.len (h : Wf f xs) (hn : xs.length ≤ 4096) : f.all.length ≤ 100000 := by
  have h1 := wk_len4 h.rt hn (h.so.wk h.rt)
  have h2 := wk_len4 h.rt hn (h.se.wk h.rt)
  have h3 := wk_len4 h.rt hn (h.sf.wk h.rt)
  simp only [Fx.all, Fx.YS, List.length_append]
  omega
end
section
variable {w w' W : World} {tp ra : Option Addr} {f : Fx} {xs0 : List Int} {z b g pc mc gc fc tc rn rc : Nat} {S : Nat → Bool}
/-- Run of a world that can be, whose old objects that lead to young ones are dirty. -/
theorem run_any (wf : Wf f xs0) (hlo : Low w z b tp g xs0 f.cs) (hz : z ≤ w.heap.size) (hct : Ct w pc mc gc fc tc S) (hzc : z ≤ pc ∧ z ≤ mc ∧ z ≤ gc) (hzs : L1.Rd w ra rn f.zs) (hrn : rn < 1000000) (hroots : ∀ r ∈ f.zs, r = 0 ∨ r ∈ f.all)
    (hrg : f.y.rgB xs0.length = true) (hnb : f.all.any (badB f.y S fc tc f.ob) = false) :
    Calls Tryz.prog 10 #[.pointer (some ⟨b, 0, none⟩), .pointer tp, f.y.v, .slice ra rn rc, ptr pc] w fun e w' =>
      (f.y.OE - f.y.OT < (f.y.ET - f.y.EF) + (f.y.FT - f.y.FF) ∧ e = .returned (.tuple #[.slice none 0 0, y0.v, .int .i64 3]) ∧ Grow w w') ∨
      ((f.y.ET - f.y.EF) + (f.y.FT - f.y.FF) ≤ f.y.OE - f.y.OT ∧ ∃ v rs s, e = .returned (.tuple #[v, (f.y.aft s.ot s.tt).v, .int .i64 0]) ∧ Ran w w' f z b tp g pc mc gc fc tc v rs s) := by
  have hll := wf.len hlo.st.n
  by_cases hr : f.y.OE - f.y.OT < (f.y.ET - f.y.EF) + (f.y.FT - f.y.FF)
  · refine (run_err (p := some ⟨b, 0, none⟩) (X := 3) (by decide) fun W c => chk_full (ob := f.ob) (hlo.st.grow c) hrg wf.wks hll (fun x hx => wf.at_ hx) (hzs.grow c) hrn (wf.clo hroots) (decide_eq_true hr) (ptr pc)).mono ?_
    rintro e w' ⟨he, hc⟩
    exact .inl ⟨hr, he, hc⟩
  · refine (run_ok wf hlo hz hct hzc hzs hrn hroots (by omega) fun W c => ?_).mono ?_
    · have := chk_loop (rc := rc) (ob := f.ob) (hlo.st.grow c) hrg wf.wks hll (fun x hx => wf.at_ hx) (hzs.grow c) hrn (wf.clo hroots) (decide_eq_false hr) (hct.grow c)
      rw [hnb] at this
      exact this
    · rintro e w' h
      exact .inr ⟨by omega, h⟩
end
end Go.Proofs.YtogfjclmohpjkaaGreatDoor.L15
