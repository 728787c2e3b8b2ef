/- Sets of queues: Rename, by whatever function it is passed whose calls only make memory. Conditions: at most 1000000 things. -/
import Derived.Test.YtgaoodjlcjmomaaL12Rk
namespace Go.Proofs.Ytgaoodjlcjmomaa.L12
open Go.ChangeShapes Go.WideShapes Go.ChangeAt Go.RowKit Go.Maps
set_option linter.unusedVariables false
theorem fn_nil (w : World) : (binOp .eql 38 .nilFunc .nilFunc).run Try.prog w = .ok (.bool true) w := by kernel_rfl
theorem fn_some (fid : Nat) (caps : Array Value) (w : World) : (binOp .eql 38 (.func (.func fid) #[] caps) .nilFunc).run Try.prog w = .ok (.bool false) w := by kernel_rfl
section
variable {w w' W w0 : World} {z p n m me m0 i j k : Nat} {S T : Nat → Prop} {v : Nat → Value} {Q : Nat → List Int} {E K L L' xs : List Int} {x q : Int} {mv : Value} {f : Int → Int} {fid : Nat} {lb : Array Value}
theorem rename_nil (h : QS w z S p Q E) :
    Calls Try.prog 16 #[ptr p, .nilFunc] w fun e w' => e = .returned (.tuple #[]) ∧ w = w' := by
  have q0 := fn_nil
  clear h
  go_enter Try.func16, Try.ntmps16
  go_wp2
  go_returns
  exact ⟨rfl, rfl⟩
theorem rename_none (fid : Nat) (lb : Array Value) (w : World) :
    Calls Try.prog 16 #[.pointer none, .func (.func fid) #[] lb] w fun e w' => e = .returned (.tuple #[]) ∧ w = w' := by
  go_enter Try.func16, Try.ntmps16
  go_wp2
  go_returns
  exact ⟨rfl, rfl⟩
theorem Mg.add2 (h : Mg eI w m n (nmF f (xs.take k))) (hn : n ≤ k) (hk : k < xs.length) (hb : xs.length < 1000000) (hx : In64 (xs.getD k 0)) :
    ∃ w', (Instr.mapUpdate 64 (.map (some m)) (.int .i64 (xs.getD k 0)) (.int .i64 (f (xs.getD k 0)))).run Try.prog w = .ok () w' ∧ (∃ n', Mg eI w' m n' (nmF f (xs.take (k + 1))) ∧ n' ≤ k + 1) ∧ Chg (· = m) w w' := by
  obtain ⟨w', h1, h2, h3⟩ := h.put eI_ok (by unfold maxLen; omega) hx (f (xs.getD k 0))
  refine ⟨w', h1, ⟨if (nmF f (xs.take k) (xs.getD k 0)).isSome = true then n else n + 1, ?_, ?_⟩, h3⟩
  · refine Eq.mp ?_ h2
    congr 1
    funext y
    have e2 : xs.getD k 0 = xs[k] := by rw [List.getD_eq_getElem?_getD, List.getElem?_eq_getElem hk]; rfl
    have e3 : y ∈ xs.take (k + 1) ↔ y ∈ xs.take k ∨ y = xs[k] := by
      rw [List.take_add_one, List.getElem?_eq_getElem hk]
      simp only [List.mem_append, Option.toList_some, List.mem_singleton]
    rw [e2]
    unfold nmF
    by_cases e : y = xs[k]
    · rw [if_pos e, if_pos (e3.2 (.inr e)), e]
    · rw [if_neg e]
      by_cases e4 : y ∈ xs.take k
      · rw [if_pos e4, if_pos (e3.2 (.inl e4))]
      · rw [if_neg e4, if_neg fun e5 => (e3.1 e5).elim e4 e]
  · split <;> omega
set_option maxRecDepth 100000 in
set_option maxHeartbeats 1000000 in
/-- Rename. -/
theorem rename_any (h : QS w z S p Q E) (hb : E.length < 1000000) (hl : ∀ i, i < 4 → (Q i).length < 1000000) (hf : ∀ x ∈ E, In64 (f x)) (eg : ∀ args w, (callFunc fid args).run Try.prog w = .ok (.enter fid args) w)
    (hn : ∀ W x, x ∈ E → Grow w W → Calls Try.prog fid (#[.int .i64 x] ++ lb) W fun e w' => e = .returned (.int .i64 (f x)) ∧ Grow W w') :
    Calls Try.prog 16 #[ptr p, .func (.func fid) #[] lb] w fun e w' => e = .returned (.tuple #[]) ∧ Chg S w w' ∧ ∃ S', QS w' z S' p (rnQ f Q) (rnE f Q E) ∧ ∀ k, S' k → S k ∨ w.heap.size ≤ k := by
  obtain ⟨v, h⟩ := h
  have q0 := fn_some fid lb
  have hmm := @run_makeMap Try.prog
  obtain ⟨mb, hmb⟩ : ∃ mb, v 4 = .map mb := by
    rcases h.ev with ⟨e, _⟩ | ⟨m, _, e, _⟩
    · exact ⟨_, e⟩
    · exact ⟨_, e⟩
  have gB : Grow w (w.alloc (.map #[] 0)) := Grow.box w _
  have h4 := gB.cell (h.cell (show 4 < 5 by omega))
  rw [hmb] at h4
  have HM := hide (Mg.made eI w)
  have HS := hide (sorted_any (h.ev.chg gB fun _ _ => id) hb mb hmb)
  have HH := hide h
  have HB := hide (And.intro hb hl)
  have HF := hide hf
  have HN := hide hn
  have hsz : (w.alloc (.map #[] 0)).heap.size = w.heap.size + 1 := by simp
  rw [hsz] at HS
  clear h hb hl hf hn
  go_enter Try.func16, Try.ntmps16
  go_wp2_with fail
  refine (keys_any mb _).mono ?_
  rintro e w1 ⟨rfl, rfl⟩
  rw [hsz]
  go_wp2_with fail
  refine HS.out.mono ?_
  rintro e w2 ⟨a, c, xs, rfl, h2, h3, h5⟩
  have HG2 := hide (((gB.alloc (.cells #[.map mb] 27)).trans h3))
  have HRD := hide (show L1.Rd w2 a xs.length xs by
    obtain ⟨a', c', e, hr⟩ := h2.form
    injection e with e1 e2 e3
    rw [e1]
    exact hr)
  have HNE := hide (show ∀ x, a = some x → x.block ≠ w.heap.size from fun x e e2 => by
    have := (h2.lt x.block (by rw [e]; rfl)).1
    omega)
  have HX := hide h5
  have HM2 := hide (show Mg eI w2 w.heap.size 0 (nmF f (xs.take 0)) from by
    have := (HM.out.grow (Grow.box _ (.cells #[.map mb] 27))).grow h3
    exact this)
  obtain ⟨N, hN⟩ : ∃ N, xs.length = N := ⟨_, rfl⟩
  rw [hN] at HRD
  have HNN := hide hN
  rw [hN]
  clear h2 h3 h5 hN HS HM h4 hsz gB
  go_wp2_with fail
  go_loopw [21] (fun c wr => ∃ k : Nat, k ≤ N ∧ c = .int .i64 k ∧ (∃ n, Mg eI wr w.heap.size n (nmF f (xs.take k)) ∧ n ≤ k) ∧ L1.Rd wr a N xs ∧ Grow w wr) (fun c _ => N - (Go.RowKit.intOf c).toNat)
  case atStart => exact ⟨0, Nat.zero_le _, rfl, ⟨0, HM2.out, Nat.le_refl _⟩, HRD.out, HG2.out⟩
  case round =>
    clear HM2 HRD HG2
    obtain ⟨k, hk, rfl, ⟨n, hm, hnk⟩, hrd, hg⟩ := hrel
    rcases Nat.eq_or_lt_of_le hk with rfl | hlt
    · have q1 : decide ((k : Int) < k) = false := by simp
      have e : nmF f (xs.take k) = nmF f E := by
        rw [← HNN.out, List.take_length]
        funext y
        unfold nmF
        by_cases e : y ∈ E
        · rw [if_pos e, if_pos ((HX.out.1 y).2 e)]
        · rw [if_neg e, if_neg fun e' => e ((HX.out.1 y).1 e')]
      rw [e] at hm
      have HR := hide (rename_map (HH.out.grow hg) hm HB.out.1 HB.out.2 HF.out)
      have HG := hide hg
      clear hm hg hrd hk e
      go_wp2_with fail
      refine HR.out.mono ?_
      rintro e w5 ⟨rfl, g1, g2⟩
      have HR1 := hide g1
      have HR2 := hide g2
      clear g1 g2
      go_wp2
      go_returns
      exact ⟨rfl, (HG.out.mono fun _ _ h => h.elim).trans HR1.out, _, HR2.out, fun q hq => hq.imp id fun e => by rw [e]; exact HG.out.size⟩
    · have q1 : decide ((k : Int) < N) = true := decide_eq_true (by omega)
      have q2 : (k : Int) < N := by omega
      have hNb : N < 1000000 := by rw [← HNN.out]; exact HX.out.2
      have hw : IntKind.i64.wrap ((k : Int) + 1) = ((k + 1 : Nat) : Int) := (IntWalk.i64_in _ (by omega)).trans (by omega)
      obtain ⟨ax, ea, hc⟩ := hrd.at_ hlt
      have hkl : k < xs.length := by rw [HNN.out]; exact hlt
      have hxE : xs.getD k 0 ∈ E := (HX.out.1 _).1 (by rw [List.getD_eq_getElem?_getD, List.getElem?_eq_getElem hkl]; exact List.getElem_mem _)
      have HC := hide (HN.out wr _ hxE hg)
      have HST := hide (show ∀ W, Grow wr W → _ from fun W hgW => (hm.grow hgW).add2 hnk hkl HX.out.2 (HH.out.wf _ hxE))
      have HAX := hide (HNE.out ax ea)
      have HRD := hide hrd
      have HG := hide hg
      have HK := hide hlt
      subst ea
      clear hm hrd hg hk hlt hkl hnk hxE hNb
      generalize xs.getD k 0 = x at *
      go_wp2_with fail
      refine HC.out.mono ?_
      rintro e w4 ⟨rfl, g4⟩
      obtain ⟨W5, h1, ⟨n5, h2, h3⟩, h4⟩ := HST.out w4 g4
      have HR := hide (And.intro (show ∃ n, Mg eI W5 w.heap.size n (nmF f (xs.take (k + 1))) ∧ n ≤ k + 1 from ⟨n5, h2, h3⟩) (And.intro (show L1.Rd W5 (some ax) N xs from Rd.chg (Rd.grow HRD.out g4) h4 fun y e => by injection e with e; rw [← e]; exact HAX.out) (show Grow w W5 from (HG.out.trans g4).step h4 fun i hi e => by omega)))
      clear g4 h2 h3 h4 hc
      go_wp2
      go_roundw
      case rel => exact ⟨k + 1, HK.out, rfl, HR.out⟩
      case measure => have := HK.out; simp [Go.RowKit.intOf]; omega
end
end Go.Proofs.Ytgaoodjlcjmomaa.L12
