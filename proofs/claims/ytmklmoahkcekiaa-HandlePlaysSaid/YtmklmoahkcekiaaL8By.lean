/- Tables of handles: what Each does to a table, by whatever function it is passed whose calls are known. Conditions: a slot was used at most 1000000 times. -/
import Derived.Test.YtmklmoahkcekiaaL8Any
namespace Go.Proofs.Ytmklmoahkcekiaa.L8
open Go.ChangeShapes Go.WideShapes Go.ChangeAt Go.RowKit
set_option linter.unusedVariables false

/-- The first k values of a table. -/
def vk (S : Nat → Sl) (k : Nat) : List Int := ((ix S 64).take k).map fun i => (S i).v
set_option maxHeartbeats 2000000 in
set_option maxRecDepth 100000 in
theorem each_by (fid : Nat) (caps : Array Value) (eg : ∀ args w, (callFunc fid args).run Try.prog w = .ok (.enter fid args) w) (g : Int → Int) (C : Nat → Prop) (Inv : Nat → List Int → World → Prop)
    {w : World} {p : Nat} {S : Nat → Sl} (h : Tb w p S) (hB : Bd S 1000000) (hCp : ¬ C p) (hCw : ∀ i, C i → i < w.heap.size)
    (h0 : ∀ w1, Grow w w1 → Inv w1.heap.size [] w1) (hI : ∀ B l W W', Inv B l W → w.heap.size ≤ B → Chg (· = p) W W' → Inv B l W')
    (hF : ∀ B l x W, Inv B l W → w.heap.size ≤ B → B ≤ W.heap.size → l.length < 64 → Calls Try.prog fid (#[.int .i64 x] ++ caps) W fun e W' => e = .returned (.int .i64 (g x)) ∧ Inv B (l ++ [x]) W' ∧ Chg (fun i => C i ∨ B ≤ i) W W') :
    Calls Try.prog 17 #[ptr p, .func (.func fid) #[] caps] w fun e W' =>
      e = .returned (.tuple #[]) ∧ (∃ B, Inv B (vk S (ix S 64).length) W' ∧ w.heap.size ≤ B ∧ B ≤ W'.heap.size) ∧ Tb W' p (stt g S (ix S 64).length) ∧ Chg (fun i => i = p ∨ C i) w W' := by
  have qf := fn_some fid caps
  have HA := hide (all_is h hB)
  have HB := hide hB
  have HT := hide h
  have HP := hide h.lt
  have H0 := hide h0
  have HI := hide hI
  have HF := hide hF
  have HC := hide hCw
  have HCP := hide hCp
  have HLE := hide (ix_length S 64)
  clear h hB h0 hI hF hCw hCp
  go_enter Try.func17, Try.ntmps17
  go_wp2_with fail
  refine HA.out.mono ?_
  rintro e w1 ⟨v, rfl, hown, c⟩
  clear HA
  rw [hs_len] at hown
  have hcell : ∀ k, k < (ix S 64).length → ∃ lg cap, v = .slice (some ⟨lg, 0, none⟩) (ix S 64).length cap ∧ w.heap.size ≤ lg ∧ lg < w1.heap.size ∧ w1.cell? ⟨lg, k, none⟩ = some (.int .i64 ((hs S 64).getD k 0)) := fun k hk => by
    obtain ⟨lg, cap, e1, e2, e3, _, _, e4⟩ := own_ints hown (by omega)
    exact ⟨lg, cap, e1, e2, e3, e4 k hk⟩
  have HCELL := hide hcell
  obtain ⟨la, lcap, rfl⟩ := own_len hown
  clear hown hcell
  have HBS := hide c.size
  have HG := hide c
  obtain ⟨n, hn⟩ : ∃ n, (ix S 64).length = n := ⟨_, rfl⟩
  rw [hn] at HCELL HLE ⊢
  obtain ⟨B, hB⟩ : ∃ B, w1.heap.size = B := ⟨_, rfl⟩
  have HB1 := hide hB
  rw [hB] at HCELL HBS
  have h1 := HT.out.grow c
  have hinv := hB ▸ H0.out _ c
  have HN := hide hn
  clear hB c H0 HT hn
  go_wp2
  go_loopw [13] (fun i wr => ∃ k : Nat, i = .int .i64 k ∧ k ≤ n ∧ Tb wr p (stt g S k) ∧ Inv B (vk S k) wr ∧ Chg (fun i => i = p ∨ C i ∨ B ≤ i) w1 wr) (fun i _ => n - (intOf i).toNat)
  case atStart => exact ⟨0, rfl, Nat.zero_le _, by rw [stt_zero]; exact h1, hinv, Chg.refl _ _⟩
  case round =>
    clear h1 hinv
    obtain ⟨k, rfl, hk, h, hinv, cc⟩ := hrel
    have hle := HLE.out
    by_cases hlt : k < n
    · obtain ⟨lg, cap, e1, e2, e3, e4⟩ := HCELL.out k hlt
      obtain ⟨i, ei, hi, ht, eh, et, en⟩ := ix_at (S := S) (n := 64) (k := k) (by rw [HN.out]; exact hlt)
      cases e1
      rw [eh] at e4
      have hc : wr.cell? ⟨lg, k, none⟩ = some (.int .i64 (hd S i : Nat)) := cc.cell e4 (fun hx => by
        have := HP.out
        rcases hx with hx | hx | hx
        · dsimp only at hx; omega
        · have := HC.out _ hx; dsimp only at this; omega
        · dsimp only at hx; omega)
      have ho : Of (stt g S k) i (hd S i : Nat) := stt_own ⟨hi, ht, rfl⟩
      have hb : Bd (stt g S k) 1000000 := stt_bd HB.out
      have hv : (stt g S k i).v = (S i).v := by rw [stt_not en]
      have hvk : vk S (k + 1) = vk S k ++ [(S i).v] := by unfold vk; rw [et, List.map_append]; rfl
      have hst : stt g S (k + 1) = upd (stt g S k) i { stt g S k i with v := g (S i).v } := stt_succ et en
      have hlen : (vk S k).length < 64 := by unfold vk; have := HLE.out; have := HN.out; simp; omega
      obtain ⟨x, hx⟩ : ∃ x, (S i).v = x := ⟨_, rfl⟩
      obtain ⟨y, hy⟩ : ∃ y : Int, (hd S i : Nat) = y := ⟨_, rfl⟩
      rw [hx] at hv hvk hst
      rw [hy] at hc ho
      clear e2 e3 e4 eh et en ei hx hy
      have HOH := hide ho
      have HVK := hide hvk
      have HSTT := hide hst
      clear ho hvk hst
      go_wp2_with fail
      refine (get_yes h hb HOH.out).mono ?_
      rintro e w2 ⟨rfl, c2⟩
      rw [hv]
      go_wp2_with fail
      have hinv2 := HI.out _ _ _ _ hinv HBS.out (all_chg c2)
      have hsz : B ≤ w2.heap.size := by have := HB1.out; have := cc.size; have := c2.size; omega
      have hnp : ¬ (C p ∨ B ≤ p) := fun hx => by
        rcases hx with hx | hx
        · exact HCP.out hx
        · have := HP.out; have := HBS.out; omega
      replace cc := ((cc.step c2 (fun _ _ hx => hx.elim)))
      refine (HF.out B _ x w2 hinv2 HBS.out hsz hlen).mono ?_
      rintro e w3 ⟨rfl, hinv3, c3⟩
      replace h := (h.grow c2).chg c3 hnp
      replace cc := cc.step c3 (fun i _ hx => .inr hx)
      obtain ⟨gx, hgx⟩ : ∃ gx, g x = gx := ⟨_, rfl⟩
      rw [hgx] at HSTT ⊢
      clear hinv hinv2 hsz hnp c2 c3 hgx
      go_wp2_with fail
      refine (set_yes h hb HOH.out gx).mono ?_
      rintro e w4 ⟨rfl, h4, c4⟩
      replace hinv3 := HI.out _ _ _ _ hinv3 HBS.out c4
      replace cc := cc.step c4 (fun i _ hx => .inl hx)
      clear h c4
      go_wp2
      go_roundw
      case rel => exact ⟨k + 1, by simp, by omega, by rw [HSTT.out]; exact h4, by rw [HVK.out]; exact hinv3, cc⟩
      case measure => simp [intOf]; omega
    · obtain rfl : k = n := by omega
      go_wp2
      go_returns
      exact ⟨rfl, ⟨B, by rw [HN.out]; exact hinv, HBS.out, by have := HB1.out; have := cc.size; omega⟩, by rw [HN.out]; exact h, (HG.out.mono (fun _ _ hx => hx.elim)).step cc (fun i hi hx => by
        rcases hx with hx | hx | hx
        · exact .inl hx
        · exact .inr hx
        · have := HBS.out; omega)⟩
end Go.Proofs.Ytmklmoahkcekiaa.L8
