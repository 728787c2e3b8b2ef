/- Reference processing: what Apply does to the program's graph. Conditions: at most 1000000 numbers in each list, fewer than 1000000 nodes. -/
import Derived.Test.YtjfpjnhlnoiekaaGreatL13Q
import Derived.Handy
namespace Go.Proofs.YtjfpjnhlnoiekaaGreat.L13
open Go.ChangeShapes Go.WideShapes Go.ChangeAt Go.RowKit Go.Maps
open Go.Proofs.YtjfpjnhlnoiekaaGreat.L9 (Nd nd Srt In64 GS pt ptr hldX aimX nd_some nd_none nd_mem own_rd own_cast hasB aim_gs setref_gs done_gs keep_gs srL dnL srX dnX kpL kpN)
open Go.Proofs.YtjfpjnhlnoiekaaGreat.L10 (Rc IsRc outs clL fins fnB OL)
open Go.Proofs.YtjfpjnhlnoiekaaGreat.L5 (Cl clAt isRf)
set_option linter.unusedVariables false
section
variable {w W W' : World} {p z b : Nat} {S : Nat → Prop} {cs : List Cl} {L : List Nd} {i : Int} {a1 a2 a3 : Option Addr} {n1 c1 n2 c2 n3 c3 : Nat} {lv cl fn : List Int}
theorem rd_at {a : Option Addr} {n k : Nat} {xs : List Int} (h : L1.Rd w a n xs) (hk : k < n) : ∃ x : Addr, a = some x ∧ w.cell? (x.add k) = some (.int .i64 (xs.getD k 0)) := h.at_ hk
theorem take_snoc' {xs : List Int} {k : Nat} (hk : k < xs.length) : xs.take (k + 1) = xs.take k ++ [xs.getD k 0] := by
  rw [List.take_add_one, List.getElem?_eq_getElem hk, List.getD_eq_getElem?_getD, List.getElem?_eq_getElem hk]
  rfl
theorem s1_len (L : List Nd) (i : Int) : (s1 cs L i).length = L.length := by
  unfold s1
  split
  · rfl
  · exact L9.srL_len _ _ _ _
theorem srs_len (L : List Nd) (l : List Int) : (srs cs L l).length = L.length := by
  induction l generalizing L with
  | nil => rfl
  | cons i l ih => rw [srs_cons, ih, s1_len]
theorem dns_len (L : List Nd) (l : List Int) : (dns L l).length = L.length := by
  induction l generalizing L with
  | nil => rfl
  | cons i l ih =>
    show (dns (dnL L i) l).length = _
    rw [ih, L9.dnL_len]
/-- The three lists, in memory that the graph does not touch. -/
structure Rl (W : World) (a : Option Addr) (n c : Nat) (S : Nat → Prop) (xs : List Int) : Prop where
  row : IsRow .i64 W a n c xs
  far : ∀ x : Addr, a = some x → 0 < n → ¬ S x.block
theorem Rl.chg {a : Option Addr} {n c : Nat} {xs : List Int} (h : Rl W a n c S xs) (d : Chg S W W') : Rl W' a n c S xs := by
  obtain ⟨⟨r1, r2, r3, r4, r5⟩, hf⟩ := h
  refine ⟨⟨r1, r2, r3, fun h0 => ?_, r5⟩, hf⟩
  obtain ⟨x, rfl, hx⟩ := r4 h0
  exact ⟨x, rfl, fun i hi => d.cell (hx i hi) (by rw [add_block]; exact hf x rfl h0)⟩
theorem Rl.grow {a : Option Addr} {n c : Nat} {xs : List Int} (h : Rl W a n c S xs) (d : Grow W W') : Rl W' a n c S xs := ⟨h.row.chg d fun _ _ => id, h.far⟩
/-- A list that was made behind the graph. -/
theorem Rl.own {z' n c : Nat} {a : Option Addr} {xs : List Int} (h : OL W z' (.slice a n c) xs) (hn : xs.length = n) (hi : ∀ i ∈ xs, In64 i) (hS : ∀ k, S k → k < z') : Rl W a n c S xs := by
  subst hn
  refine ⟨L10.ol_row h hi, fun x e h0 => ?_⟩
  obtain ⟨g, cc, e2, hg, -⟩ := h.pos h0
  injection e2 with e2
  rw [e] at e2
  injection e2 with e2
  rw [e2]
  intro hs
  have := hS _ hs
  dsimp only at this
  omega
/-- What Apply answers, and does. -/
def Apd (w : World) (z p : Nat) (S : Nat → Prop) (cs : List Cl) (L : List Nd) (lv cl fn : List Int) (e : Ending) (w' : World) : Prop :=
  e = .returned (.int .i64 (apN cs L lv cl fn)) ∧ Chg S w w' ∧ GS w' z S p cs (apL cs L lv cl fn)
set_option maxRecDepth 100000 in
set_option maxHeartbeats 2000000 in
theorem apply_any (h : GS w z S p cs L) (hl : L.length < 1000000) (h1 : Rl w a1 n1 c1 S lv) (h2 : Rl w a2 n2 c2 S cl) (h3 : Rl w a3 n3 c3 S fn) (hn1 : n1 < 1000000) (hn2 : n2 ≤ 1000000) (hn3 : n3 ≤ 1000000) :
    Calls Tryz.prog 13 #[ptr p, .agg #[.slice a1 n1 c1, .slice a2 n2 c2, .slice a3 n3 c3]] w (Apd w z p S cs L lv cl fn) := by
  have gB := Grow.box w (.cells [.slice a1 n1 c1, .slice a2 n2 c2, .slice a3 n3 c3].toArray 35)
  have hbx := Blk.new w 35 [.slice a1 n1 c1, .slice a2 n2 c2, .slice a3 n3 c3]
  have hnb : ¬ S w.heap.size := fun hs => by have := (h.s hs).2; omega
  have HGB := hide gB
  have HN := hide (⟨hn1, hn2, hn3, hl⟩ : n1 < 1000000 ∧ n2 ≤ 1000000 ∧ n3 ≤ 1000000 ∧ L.length < 1000000)
  have HBX := hide (fun (W : World) (c : Chg S (w.alloc (.cells [.slice a1 n1 c1, .slice a2 n2 c2, .slice a3 n3 c3].toArray 35)) W) => hbx.chg c hnb)
  have H1 := hide (fun (W : World) (c : Chg S (w.alloc (.cells [.slice a1 n1 c1, .slice a2 n2 c2, .slice a3 n3 c3].toArray 35)) W) => (h1.grow gB).chg c)
  have H2 := hide (fun (W : World) (c : Chg S (w.alloc (.cells [.slice a1 n1 c1, .slice a2 n2 c2, .slice a3 n3 c3].toArray 35)) W) => (h2.grow gB).chg c)
  have H3 := hide (fun (W : World) (c : Chg S (w.alloc (.cells [.slice a1 n1 c1, .slice a2 n2 c2, .slice a3 n3 c3].toArray 35)) W) => (h3.grow gB).chg c)
  have HG := hide (h.grow gB)
  have k1 := hbx.cell 1
  clear h h1 h2 h3 hn1 hn2 hn3 hl gB hbx hnb
  go_enter Tryz.func13, Tryz.ntmps13
  go_wp2_with fail
  generalize w.alloc (.cells #[.slice a1 n1 c1, .slice a2 n2 c2, .slice a3 n3 c3] 35) = wB at *
  generalize w.heap.size = bb at *
  clear k1
  go_loopw [14] (fun u wr => ∃ k : Nat, k ≤ n2 ∧ u = .int .i64 k ∧ Chg S wB wr ∧ GS wr z S p cs (srs cs L (cl.take k))) (fun u _ => n2 - (Go.RowKit.intOf u).toNat)
  case atStart => exact ⟨0, Nat.zero_le _, rfl, Chg.refl _ _, HG.out⟩
  case round =>
    clear HG
    obtain ⟨k, hk, rfl, hc, hg⟩ := hrel
    rcases Nat.eq_or_lt_of_le hk with hke | hlt
    · have hke2 := hke.symm
      subst hke2
      clear hke
      have q1 : decide ((n2 : Int) < n2) = false := by simp
      have e0 : cl.take n2 = cl := by rw [← (H2.out _ hc).row.1, List.take_length]
      rw [e0] at hg
      have HC := hide hc
      have HG := hide hg
      have k2 := (HBX.out _ hc).cell 2
      have HSL := hide (srs_len (cs := cs) L cl)
      clear hc hg hk e0
      obtain ⟨LC, hLC⟩ : ∃ LC, srs cs L cl = LC := ⟨_, rfl⟩
      have HLC := hide hLC
      rw [hLC] at HG HSL
      clear hLC
      go_wp2_with fail
      clear k2
      go_loopw [33] (fun u wr => ∃ k : Nat, k ≤ n3 ∧ u = .int .i64 k ∧ Chg S wB wr ∧ GS wr z S p cs (dns LC (fn.take k))) (fun u _ => n3 - (Go.RowKit.intOf u).toNat)
      case atStart => exact ⟨0, Nat.zero_le _, rfl, HC.out, HG.out⟩
      case round =>
        clear HC HG
        obtain ⟨k, hk, rfl, hc, hg⟩ := hrel
        rcases Nat.eq_or_lt_of_le hk with hke | hlt
        · have hke2 := hke.symm
          subst hke2
          clear hke
          have q1 : decide ((n3 : Int) < n3) = false := by simp
          have e0 : fn.take n3 = fn := by rw [← (H3.out _ hc).row.1, List.take_length]
          rw [e0] at hg
          have HC := hide hc
          have HKE := hide (keep_gs hg (by rw [dns_len, HSL.out]; exact HN.out.2.2.2) (H1.out _ hc).row HN.out.1)
          have k0 := (HBX.out _ hc).cell 0
          clear hc hg hk e0
          go_wp2_with fail
          refine HKE.out.mono ?_
          rintro e w9 ⟨rfl, c9, h9⟩
          have HC9 := hide (HC.out.trans c9)
          have H9 := hide h9
          clear c9 h9 HKE k0
          go_wp2
          go_ret
          have e1 := HLC.out
          subst e1
          exact ⟨rfl, (HGB.out.mono fun _ _ h => h.elim).trans HC9.out, H9.out⟩
        · have q1 : decide ((k : Int) < n3) = true := decide_eq_true (by omega)
          have q2 : k < n3 := hlt
          have hrow := (H3.out _ hc).row
          obtain ⟨x, rfl, hx, hi⟩ := hrow.at_ hlt
          have hw : IntKind.i64.wrap ((k : Int) + 1) = ((k + 1 : Nat) : Int) := (IntWalk.i64_in _ (by have := HN.out; omega)).trans (by omega)
          have htk := take_snoc' (xs := fn) (k := k) (by rw [hrow.1]; exact hlt)
          have HDO := hide (done_gs hg hi)
          rw [← dns_snoc, ← htk] at HDO
          generalize fn.getD k 0 = u at *
          have HC := hide hc
          have HLT := hide hlt
          clear hc hg hrow hi htk hlt hk
          go_wp2_with fail
          refine HDO.out.mono ?_
          rintro e w5 ⟨rfl, c5, h5⟩
          have HC5 := hide (HC.out.trans c5)
          have H5 := hide h5
          clear c5 h5 HDO hx
          go_wp2
          go_roundw
          case rel => exact ⟨k + 1, HLT.out, rfl, HC5.out, H5.out⟩
          case measure => have := HLT.out; simp [Go.RowKit.intOf]; omega
    · have q1 : decide ((k : Int) < n2) = true := decide_eq_true (by omega)
      have q2 : k < n2 := hlt
      have hrow := (H2.out _ hc).row
      obtain ⟨x, rfl, hx, hi⟩ := hrow.at_ hlt
      have hw : IntKind.i64.wrap ((k : Int) + 1) = ((k + 1 : Nat) : Int) := (IntWalk.i64_in _ (by have := HN.out; omega)).trans (by omega)
      have htk := take_snoc' (xs := cl) (k := k) (by rw [hrow.1]; exact hlt)
      have HTK := hide (show srs cs L (cl.take (k + 1)) = s1 cs (srs cs L (cl.take k)) (cl.getD k 0) by rw [htk, srs_snoc])
      have HAI := hide (aim_gs hg hi)
      have h0 : In64 0 := (show (Lit.int .i64 0).wf = true by decide)
      obtain ⟨LK, hLK⟩ : ∃ LK, srs cs L (cl.take k) = LK := ⟨_, rfl⟩
      rw [hLK] at HTK HAI hg
      generalize cl.getD k 0 = u at *
      have HSE := hide (fun (W : World) (g : Grow wr W) => setref_gs (hg.grow g) hi h0 h0)
      have HC := hide hc
      have HG := hide hg
      have HLT := hide hlt
      obtain ⟨t1, ht1⟩ : ∃ t1, (aimX cs LK u).1 = t1 := ⟨_, rfl⟩
      obtain ⟨t2, ht2⟩ : ∃ t2, (aimX cs LK u).2 = t2 := ⟨_, rfl⟩
      have HT2 := hide ht2
      rw [ht1, ht2] at HAI
      clear hc hg hrow hi htk hlt hk h0 hLK ht1 ht2
      go_wp2_with fail
      refine HAI.out.mono ?_
      rintro e w5 ⟨rfl, g5⟩
      dsimp only
      have hc5 : Chg S wB w5 := HC.out.trans (g5.mono fun _ _ h => h.elim)
      by_cases h2 : t2 = 0
      · have q3 : (t2 != 0) = false := by simp [h2]
        have HN1 := hide (show GS w5 z S p cs (srs cs L (cl.take (k + 1))) by
          rw [HTK.out]
          unfold s1
          rw [if_pos (by rw [HT2.out]; exact h2)]
          exact HG.out.grow g5)
        have HC5 := hide hc5
        clear g5 hc5 h2 HAI hx
        go_wp2
        go_roundw
        case rel => exact ⟨k + 1, HLT.out, rfl, HC5.out, HN1.out⟩
        case measure => have := HLT.out; simp [Go.RowKit.intOf]; omega
      · have q3 : (t2 != 0) = true := by simp [h2]
        have HS5 := hide (HSE.out _ g5)
        have HC5 := hide hc5
        have HTS := hide (show srs cs L (cl.take (k + 1)) = srL LK u 0 0 by
          rw [HTK.out]
          unfold s1
          rw [if_neg (by rw [HT2.out]; exact h2)])
        clear g5 hc5 h2 HAI hx HSE
        go_wp2_with fail
        refine HS5.out.mono ?_
        rintro e w6 ⟨rfl, c6, h6⟩
        have HC6 := hide (HC5.out.trans c6)
        rw [← HTS.out] at h6
        have H6 := hide h6
        clear c6 h6 HS5
        go_wp2
        go_roundw
        case rel => exact ⟨k + 1, HLT.out, rfl, HC6.out, H6.out⟩
        case measure => have := HLT.out; simp [Go.RowKit.intOf]; omega
end
end Go.Proofs.YtjfpjnhlnoiekaaGreat.L13
