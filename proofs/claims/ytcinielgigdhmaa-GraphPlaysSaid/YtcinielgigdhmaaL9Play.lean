/- Graphs: a list of calls played; and that the program is awake. Conditions: at most 1000 calls. -/
import Derived.Test.YtcinielgigdhmaaL9Any
import Derived.Test.YtcinielgigdhmaaL9Few
import Derived.StillTailTactics
namespace Go.Proofs.Ytcinielgigdhmaa.L9
open Go.ChangeShapes Go.WideShapes Go.ChangeAt Go.RowKit
open Go.Proofs.Ytcinielgigdhmaa.L5 (Cl clV rtB Tb clAt shX shR shD woV hoB IsCls newX isRf)
set_option linter.unusedVariables false

def opL (cs : List Cl) (L : List Nd) (o : Oq) : List Nd := if o.k = 1 then adL cs L o.a o.b o.c else if o.k = 2 then srL L o.a o.b o.c else if o.k = 3 then snL L o.a o.b o.c else if o.k = 4 then dnL L o.a else L
def plL (cs : List Cl) (L : List Nd) (l : List Oq) : List Nd := l.foldl (opL cs) L
theorem opL_len (cs : List Cl) (L : List Nd) (o : Oq) : (opL cs L o).length ≤ L.length + 1 := by
  unfold opL
  split
  · exact adL_len _ _ _ _ _
  · split
    · rw [srL_len]; omega
    · split
      · rw [snL_len]; omega
      · split
        · rw [dnL_len]; omega
        · omega
theorem plL_len (cs : List Cl) (l : List Oq) : ∀ L : List Nd, (plL cs L l).length ≤ L.length + l.length := by
  induction l with
  | nil => intro L; exact Nat.le_refl _
  | cons o l ih =>
    intro L
    have h1 := ih (opL cs L o)
    have h2 := opL_len cs L o
    show (plL cs (opL cs L o) l).length ≤ _
    simp only [List.length_cons]
    omega
theorem plL_step (cs : List Cl) (L : List Nd) (l : List Oq) (k : Nat) (hk : k < l.length) : plL cs L (l.take (k + 1)) = opL cs (plL cs L (l.take k)) (l.getD k o0) := by
  unfold plL
  rw [List.take_add_one, List.getElem?_eq_getElem hk, List.foldl_append, List.getD_eq_getElem?_getD, List.getElem?_eq_getElem hk]
  rfl
section
variable {w0 w : World} {z p : Nat} {S : Nat → Prop} {cs : List Cl} {L : List Nd} {a : Option Addr} {len cap : Nat} {l : List Oq}
/-- What stands between two calls. -/
def Pl (w wr : World) (z : Nat) (S : Nat → Prop) (p : Nat) (cs : List Cl) (L : List Nd) : Prop :=
  ∃ S', GS wr z S' p cs L ∧ Chg S w wr ∧ ∀ k, S' k → S k ∨ w.heap.size ≤ k
theorem Pl.same {wr w' : World} {L' : List Nd} {S1 : Nat → Prop} (hs : ∀ k, S1 k → S k ∨ w.heap.size ≤ k) (hcc : Chg S w wr) (hc : Chg S1 wr w') (hg : GS w' z S1 p cs L') : Pl w w' z S p cs L' :=
  ⟨S1, hg, hcc.step hc fun i hi hk => by rcases hs i hk with h | h; exact h; omega, hs⟩
theorem Pl.more {wr w' : World} {L' : List Nd} {S1 S' : Nat → Prop} (hs : ∀ k, S1 k → S k ∨ w.heap.size ≤ k) (hcc : Chg S w wr) (hc : Chg S1 wr w') (hg : GS w' z S' p cs L') (hs' : ∀ k, S' k → S1 k ∨ wr.heap.size ≤ k) : Pl w w' z S p cs L' :=
  ⟨S', hg, hcc.step hc (fun i hi hk => by rcases hs i hk with h | h; exact h; omega), fun k hk => by
    rcases hs' k hk with h | h
    · exact hs k h
    · exact .inr (Nat.le_trans hcc.size h)⟩
set_option maxRecDepth 100000 in
set_option maxHeartbeats 4000000 in
theorem play_any (h : GS w z S p cs L) (ho : IsOps w0 a len cap l) (c0 : Chg (fun k => w0.heap.size ≤ k) w0 w) (hz : w0.heap.size ≤ z) (hL : L.length ≤ 1000) (hlen : len ≤ 1000) :
    Calls Try.prog 30 #[ptr p, .slice a len cap] w fun e w' => e = .returned (.tuple #[]) ∧ Pl w w' z S p cs (plL cs L l) := by
  have HA := hide ho
  have H := hide h
  have HC := hide c0
  have HZ := hide (And.intro hz (And.intro hL hlen))
  clear h ho c0 hz hL hlen
  go_enter Try.func30, Try.ntmps30
  go_wp2_with fail
  go_loopw [7] (fun c wr => ∃ k : Nat, k ≤ len ∧ c = .int .i64 k ∧ Pl w wr z S p cs (plL cs L (l.take k))) (fun c _ => len - (Go.RowKit.intOf c).toNat)
  case atStart => exact ⟨0, Nat.zero_le _, rfl, S, H.out, Chg.refl _ _, fun k hk => .inl hk⟩
  case round =>
    obtain ⟨k, hk, rfl, hP⟩ := hrel
    have hln : l.length = len := HA.out.1
    rcases Nat.eq_or_lt_of_le hk with rfl | hlt
    · have q1 : decide ((k : Int) < k) = false := by simp
      rw [← hln, List.take_length] at hP
      have HP := hide hP
      clear hP hln
      go_wp2
      go_end0
      exact ⟨rfl, HP.out⟩
    · have q1 : decide ((k : Int) < len) = true := by simp; omega
      have hst := plL_step cs L l k (by omega)
      have hpl := plL_len cs (l.take k) L
      have htk : (l.take k).length ≤ k := by simp; omega
      have hLn : (plL cs L (l.take k)).length < 1000000 := by have := HZ.out; omega
      have hw : IntKind.i64.wrap ((k : Int) + 1) = ((k + 1 : Nat) : Int) := (IntWalk.i64_in _ (by have := HZ.out; omega)).trans (by omega)
      have HK := hide hlt
      generalize plL cs L (l.take k) = Lk at *
      have hcw : Chg (fun j => w0.heap.size ≤ j) w0 wr := by
        obtain ⟨S1, h1, h2, h3⟩ := hP
        exact HC.out.step h2 fun i hi hk => by have := (H.out.s hk).1; have := HZ.out.1; omega
      obtain ⟨b, off, o, rfl, hoo, hod, hok, x0, x1, x2, x3, x4⟩ := (HA.out.chg hcw (fun i hi h => by omega)).at_ hlt
      rw [hod] at hst
      obtain ⟨S1, hg, hc1, hs1⟩ := hP
      have HG := hide (hg.grow (Chg.drew (Chg.refl _ wr)))
      have HG0 := hide hg
      have HS := hide hs1
      have HCC := hide hc1
      have HP := hide (show Pl w wr z S p cs Lk from ⟨S1, hg, hc1, hs1⟩)
      have HO := hide hok
      have HLN := hide hLn
      have HST0 := hide hst
      have HCD := hide (hc1.drew)
      clear hst hpl htk hLn hcw hoo hod hg hc1 hs1 hok hk x4 HA hln
      obtain ⟨K, A, B, C, la, ll, lc, zs⟩ := o
      dsimp only at x0 x1 x2 x3
      rw [Nat.add_zero] at x0
      by_cases k1 : K = 1
      · as_aux_lemma =>
        subst k1
        have HST := hide (show plL cs L (l.take (k + 1)) = adL cs Lk A B C by rw [HST0.out]; rfl)
        go_wp2_with fail
        go_still_tail 16, (by kernel_rfl)
        change wpList _ _ _ _ _ wr.drew
        go_wp2_with fail
        refine (add_gs HG.out HLN.out HO.out.a B C).mono ?_
        rintro e w' ⟨rfl, c', S', h', hs'⟩
        have HN := Pl.more HS.out HCD.out c' h' hs'
        clear c' h' hs'
        go_wp2
        go_roundw
        case rel => exact ⟨k + 1, HK.out, rfl, by rw [HST.out]; exact HN⟩
        case measure => have := HK.out; simp [Go.RowKit.intOf]; omega
      · by_cases k2 : K = 2
        · as_aux_lemma =>
          subst k2
          have HST := hide (show plL cs L (l.take (k + 1)) = srL Lk A B C by rw [HST0.out]; rfl)
          clear k1
          go_wp2_with fail
          go_still_tail 16, (by kernel_rfl)
          change wpList _ _ _ _ _ wr.drew
          go_wp2_with fail
          refine (setref_gs HG.out HO.out.a HO.out.b HO.out.c).mono ?_
          rintro e w' ⟨rfl, c', h'⟩
          have HN := Pl.same HS.out HCD.out c' h'
          clear c' h'
          go_wp2
          go_roundw
          case rel => exact ⟨k + 1, HK.out, rfl, by rw [HST.out]; exact HN⟩
          case measure => have := HK.out; simp [Go.RowKit.intOf]; omega
        · by_cases k3 : K = 3
          · as_aux_lemma =>
            subst k3
            have HST := hide (show plL cs L (l.take (k + 1)) = snL Lk A B C by rw [HST0.out]; rfl)
            clear k1 k2
            go_wp2_with fail
            go_still_tail 16, (by kernel_rfl)
            change wpList _ _ _ _ _ wr.drew
            go_wp2_with fail
            refine (setnum_gs HG.out C HO.out.a HO.out.b).mono ?_
            rintro e w' ⟨rfl, c', h'⟩
            have HN := Pl.same HS.out HCD.out c' h'
            clear c' h'
            go_wp2
            go_roundw
            case rel => exact ⟨k + 1, HK.out, rfl, by rw [HST.out]; exact HN⟩
            case measure => have := HK.out; simp [Go.RowKit.intOf]; omega
          · by_cases k4 : K = 4
            · as_aux_lemma =>
              subst k4
              have HST := hide (show plL cs L (l.take (k + 1)) = dnL Lk A by rw [HST0.out]; rfl)
              clear k1 k2 k3
              go_wp2_with fail
              refine (done_gs HG0.out HO.out.a).mono ?_
              rintro e w' ⟨rfl, c', h'⟩
              have HN := Pl.same HS.out HCC.out c' h'
              clear c' h'
              go_wp2
              go_roundw
              case rel => exact ⟨k + 1, HK.out, rfl, by rw [HST.out]; exact HN⟩
              case measure => have := HK.out; simp [Go.RowKit.intOf]; omega
            · as_aux_lemma =>
              have HST := hide (show plL cs L (l.take (k + 1)) = Lk by rw [HST0.out]; unfold opL; rw [if_neg k1, if_neg k2, if_neg k3, if_neg k4])
              have e1 : (K == 1) = false := by simpa using k1
              have e2 : (K == 2) = false := by simpa using k2
              have e3 : (K == 3) = false := by simpa using k3
              have e4 : (K == 4) = false := by simpa using k4
              have HN := HP.out
              clear k1 k2 k3 k4
              go_wp2
              go_roundw
              case rel => exact ⟨k + 1, HK.out, rfl, by rw [HST.out]; exact HN⟩
              case measure => have := HK.out; simp [Go.RowKit.intOf]; omega
end
end Go.Proofs.Ytcinielgigdhmaa.L9
