/- slices.Concat of three lists of numbers; rows beside the state. Conditions: at most 10000000 numbers. -/
import Derived.Test.YtjfpjnhlnoiekaaGreatL13C
import Derived.Test.YtjfpjnhlnoiekaaGreatL13K
namespace Go.Proofs.YtjfpjnhlnoiekaaGreat.L13
open Go.ChangeShapes Go.WideShapes Go.ChangeAt Go.RowKit Go.Maps
open Go.Proofs.YtjfpjnhlnoiekaaGreat.L9 (Nd nd Srt In64 GS Mn pt ptr hldX aimX nd_some nd_none nd_mem own_rd own_cast wpList_app hasB hasB_step)
open Go.Proofs.YtjfpjnhlnoiekaaGreat.L10 (Rc IsRc outs clL fins fnB srcC clL_srt put OL ol_nil app_more take_step clL_step clL_le reach_any grow_nil)
open Go.Proofs.YtjfpjnhlnoiekaaGreat.L5 (Cl clAt isRf)
set_option linter.unusedVariables false
section
variable {w : World} {a a2 a3 : Option Addr} {n n2 n3 c c2 c3 g : Nat} {xs ys us : List Int}
set_option maxRecDepth 100000 in
set_option maxHeartbeats 1000000 in
theorem concat3 (hb : Blk w g 27 [.slice a n c, .slice a2 n2 c2, .slice a3 n3 c3]) (h1 : L1.Rd w a n xs) (h2 : L1.Rd w a2 n2 ys) (h3 : L1.Rd w a3 n3 us) (hn : n + n2 + n3 ≤ 10000000) :
    Calls Tryz.prog 31 #[.slice (some ⟨g, 0, none⟩) 3 3] w fun e w' => ∃ v, e = .returned v ∧ OL w' w.heap.size v (xs ++ ys ++ us) ∧ Grow w w' := by
  have k0 : w.cell? ⟨g, 0, none⟩ = some (.slice a n c) := hb.cell 0
  have k1 : w.cell? ⟨g, 1, none⟩ = some (.slice a2 n2 c2) := hb.cell 1
  have k2 : w.cell? ⟨g, 2, none⟩ = some (.slice a3 n3 c3) := hb.cell 2
  have HB := hide (And.intro k0 (And.intro k1 k2))
  have H1 := hide h1
  have H2 := hide h2
  have H3 := hide h3
  have HN := hide hn
  have hs1 : IntKind.i64.wrap ((n : Int)) = n := IntWalk.i64_in _ (by omega)
  obtain ⟨A, hA⟩ : ∃ A, n + n2 = A := ⟨_, rfl⟩
  obtain ⟨B, hB⟩ : ∃ B, A + n3 = B := ⟨_, rfl⟩
  have hs2 : IntKind.i64.wrap ((n : Int) + n2) = (A : Int) := (IntWalk.i64_in _ (by omega)).trans (by omega)
  have hs3 : IntKind.i64.wrap ((A : Int) + n3) = (B : Int) := (IntWalk.i64_in _ (by omega)).trans (by omega)
  have q1 : decide ((n : Int) < 0) = false := by simp
  have q2 : decide ((A : Int) < 0) = false := by simp
  have q3 : decide ((B : Int) < 0) = false := by simp
  have HG := hide (fun W => grow_nil B W (by omega))
  have HLX := hide h1.1
  have HLY := hide h2.1
  clear hb h1 h2 h3 hn k0 k1 k2 hA hB
  go_enter Tryz.func31, Tryz.ntmps31
  go_wp2_with fail
  go_loopw [3, 11] (fun s v wr => ∃ k : Nat, k ≤ 3 ∧ v = .int .i64 k ∧ s = .int .i64 ((if k = 0 then 0 else if k = 1 then n else if k = 2 then A else B : Nat) : Int) ∧ w = wr) (fun _ v _ => 3 - (Go.RowKit.intOf v).toNat)
  case atStart => exact ⟨0, by omega, rfl, rfl, rfl⟩
  case round =>
    obtain ⟨k, hk, rfl, rfl, rfl⟩ := hrel
    obtain ⟨k0, k1, k2⟩ := HB.out
    obtain rfl | rfl | rfl | rfl : k = 0 ∨ k = 1 ∨ k = 2 ∨ k = 3 := by omega
    · clear k1 k2 hk
      go_wp2
      go_roundw
      case rel => exact ⟨1, by omega, rfl, by simp, by first | rfl | trivial⟩
      case measure => simp [Go.RowKit.intOf]
    · clear k0 k2 hk
      go_wp2
      go_roundw
      case rel => exact ⟨2, by omega, rfl, by simp, by first | rfl | trivial⟩
      case measure => simp [Go.RowKit.intOf]
    · clear k0 k1 hk
      go_wp2
      go_roundw
      case rel => exact ⟨3, by omega, rfl, by simp, by first | rfl | trivial⟩
      case measure => simp [Go.RowKit.intOf]
    · clear k0 k1 k2 hk
      go_wp2_with fail
      refine (HG.out _).mono ?_
      rintro e w1 ⟨v0, rfl, ho, c1⟩
      have HO := hide ho
      have HC := hide c1
      clear ho c1
      go_wp2_with fail
      go_loopw [6, 27] (fun s v wr => ∃ k : Nat, k ≤ 3 ∧ v = .int .i64 k ∧ OL wr w.heap.size s (if k = 0 then [] else if k = 1 then xs else if k = 2 then xs ++ ys else xs ++ ys ++ us) ∧ Grow w wr) (fun _ v _ => 3 - (Go.RowKit.intOf v).toNat)
      case atStart => exact ⟨0, by omega, rfl, HO.out, HC.out⟩
      case round =>
        clear HO HC
        obtain ⟨k, hk, rfl, ho, cg⟩ := hrel
        obtain ⟨k0, k1, k2⟩ := HB.out
        replace k0 := cg.cell k0
        replace k1 := cg.cell k1
        replace k2 := cg.cell k2
        obtain rfl | rfl | rfl | rfl : k = 0 ∨ k = 1 ∨ k = 2 ∨ k = 3 := by omega
        · clear k1 k2
          replace ho : OL wr w.heap.size u6 [] := ho
          obtain ⟨v', W', hr, ho', cg', -⟩ := app_more (c0 := c) cg ho (L9.L1.Rd.chg H1.out cg fun _ _ => id) (by have := HN.out; have := HLX.out; have := HLY.out; simp; omega)
          have KA := hide hr
          have HO := hide ho'
          have HC := hide cg'
          clear hk hr ho' cg' ho cg HG
          go_wp2_with (at_builtin; refine wpList_app rfl _ _ 27 rfl u6 (.slice a n c) v' _ W' rfl rfl KA.out ?_)
          go_roundw
          case rel => exact ⟨1, by omega, rfl, HO.out, HC.out⟩
          case measure => simp [Go.RowKit.intOf]
        · clear k0 k2
          replace ho : OL wr w.heap.size u6 xs := ho
          obtain ⟨v', W', hr, ho', cg', -⟩ := app_more (c0 := c2) cg ho (L9.L1.Rd.chg H2.out cg fun _ _ => id) (by have := HN.out; have := HLX.out; have := HLY.out; skip; omega)
          have KA := hide hr
          have HO := hide ho'
          have HC := hide cg'
          clear hk hr ho' cg' ho cg HG
          go_wp2_with (at_builtin; refine wpList_app rfl _ _ 27 rfl u6 (.slice a2 n2 c2) v' _ W' rfl rfl KA.out ?_)
          go_roundw
          case rel => exact ⟨2, by omega, rfl, HO.out, HC.out⟩
          case measure => simp [Go.RowKit.intOf]
        · clear k0 k1
          replace ho : OL wr w.heap.size u6 (xs ++ ys) := ho
          obtain ⟨v', W', hr, ho', cg', -⟩ := app_more (c0 := c3) cg ho (L9.L1.Rd.chg H3.out cg fun _ _ => id) (by have := HN.out; have := HLX.out; have := HLY.out; (rw [List.length_append]); omega)
          have KA := hide hr
          have HO := hide ho'
          have HC := hide cg'
          clear hk hr ho' cg' ho cg HG
          go_wp2_with (at_builtin; refine wpList_app rfl _ _ 27 rfl u6 (.slice a3 n3 c3) v' _ W' rfl rfl KA.out ?_)
          go_roundw
          case rel => exact ⟨3, by omega, rfl, HO.out, HC.out⟩
          case measure => simp [Go.RowKit.intOf]
        · have HO := hide ho
          have HC := hide cg
          clear k0 k1 k2 hk ho cg
          go_wp2
          go_ret
          exact ⟨_, rfl, HO.out, HC.out⟩
end
section
variable {w W W' : World} {s p m z b : Nat} {f : Int → Option Nat} {ia : Option Addr} {ic : Nat} {cs : List Cl} {L : List Nd} {q c : Int → Bool} {wv wv' v : Value} {wq : Int → Bool} {xs : List Int}
/-- A list of its own, apart from those who wait. -/
def Rw (W : World) (z : Nat) (wv v : Value) (xs : List Int) : Prop := OL W z v xs ∧ ∀ k, wv.ownBlock = some k → v.ownBlock ≠ some k
theorem Rw.grow (h : Rw W z wv v xs) (g : Grow W W') : Rw W' z wv v xs := ⟨h.1.grow g, h.2⟩
theorem Rw.tch (h : Rw W z wv v xs) (hs : Sn w W s p m f ia ic cs L q c wv wq) (d : Chg (Tch s f wv) W W') (ho : ∀ k, wv'.ownBlock = some k → wv.ownBlock = some k ∨ W.heap.size ≤ k) : Rw W' z wv' v xs :=
  ⟨hs.keep d h.1 h.2, Sn.hop h.1 h.2 ho⟩
theorem Rw.new (hs : Sn w W s p m f ia ic cs L q c wv wq) (ho : OL W' W.heap.size v xs) : Rw W' W.heap.size wv v xs := ⟨ho, hs.new_row (Nat.le_refl _) ho⟩
theorem Rw.lower {z' : Nat} (h : Rw W z wv v xs) (hz : z' ≤ z) : Rw W z' wv v xs := ⟨h.1.lower hz, h.2⟩
end
end Go.Proofs.YtjfpjnhlnoiekaaGreat.L13
