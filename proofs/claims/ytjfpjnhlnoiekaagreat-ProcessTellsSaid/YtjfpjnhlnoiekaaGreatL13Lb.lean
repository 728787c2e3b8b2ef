/- The plain answer of reference processing: what its Apply does to the plain graph. Conditions: at most 1000000 numbers in each list, fewer than 1000000 nodes and classes. -/
import Derived.Test.YtjfpjnhlnoiekaaGreatL13La
namespace Go.Proofs.YtjfpjnhlnoiekaaGreat.L13
open Go.ChangeShapes Go.WideShapes Go.ChangeAt Go.RowKit
open Go.Proofs.YtjfpjnhlnoiekaaGreat.L9 (Nd nd GS RG Rf Lok In64 Srt nd_some nd_none nd_mem nd_at own_rd own_cast ptr hasB hldX aimX aim_r at_yes at_no srL dnL srX dnX kpL kpN updN updN_set srX_ok keep_r)
open Go.Proofs.YtjfpjnhlnoiekaaGreat.L5 (Cl clAt isRf IsCls)
open Go.Proofs.YtjfpjnhlnoiekaaGreat.L10 (Pg)
set_option linter.unusedVariables false
section
variable {w W W' : World} {z q len cap : Nat} {a a1 a2 a3 : Option Addr} {n1 c1 n2 c2 n3 c3 : Nat} {lv cl fn l : List Int} {T : Nat → Prop} {cs : List Cl} {L : List Nd} {i : Int}
theorem lok_srs (h : Lok cs L) (l : List Int) : Lok cs (srs cs L l) := by rw [srs_map h]; exact clr1_lok h _
theorem lok_dns (h : Lok cs L) (l : List Int) : Lok cs (dns L l) := by
  rw [dns_map h.1]
  exact lok_map h _ (fun _ => rfl) fun x _ hx => ⟨hx.id1, hx.id2, hx.rl, hx.dl, hx.rw_, hx.cl⟩
/-- The node whose first reference is cleared. -/
theorem s1_at (h : Lok cs L) (hk : (aimX cs L i).2 ≠ 0) : ∃ (k : Nat) (x : Nd), L[k]? = some x ∧ k < L.length ∧ x.id = i ∧ 0 < x.refs.length ∧ s1 cs L i = L.set k { x with refs := x.refs.set 0 0 } := by
  obtain ⟨x, hn, hr⟩ := aim_ne hk
  obtain ⟨hx, hid⟩ := nd_some hn
  obtain ⟨k, hk2, hkl⟩ := nd_at hn
  have hrl := rlen (h.2 x hx) hr
  obtain ⟨-, h2⟩ := srX_ok hn (n := 0) (t := 0) (by omega) (by simp)
  have e0 : srL L i 0 0 = updN L i fun x => { x with refs := x.refs.set 0 0 } := h2
  refine ⟨k, x, hk2, hkl, hid, hrl, ?_⟩
  unfold s1
  rw [if_neg hk, e0, ← hid, updN_set h.1 hk2]
theorem dn_at {k : Nat} {x : Nd} (h : Srt L) (hk : L[k]? = some x) : dnL L x.id = L.set k { x with fin := false } := by
  unfold dnL dnX
  rw [nd_mem h (List.mem_of_getElem? hk), if_pos rfl, updN_set h hk]
theorem dn_no (hn : nd L i = none) : dnL L i = L := by
  unfold dnL dnX
  rw [hn, if_neg (by simp)]
/-- What the plain Apply answers, and does. -/
def Rpd (w : World) (z q : Nat) (T : Nat → Prop) (cv : Value) (cs : List Cl) (L : List Nd) (lv cl fn : List Int) (e : Ending) (w' : World) : Prop :=
  e = .returned (.int .i64 (apN cs L lv cl fn)) ∧ Chg T w w' ∧ ∃ T', RG w' z T' q cv (apL cs L lv cl fn) ∧ ∀ k, T' k → T k ∨ w.heap.size ≤ k
set_option maxRecDepth 100000 in
set_option maxHeartbeats 4000000 in
theorem rapply_any (h : Pg w z T q a len cap cs L) (hcc : ∀ W, Chg T w W → IsCls W a len cap cs) (h1 : Rl w a1 n1 c1 T lv) (h2 : Rl w a2 n2 c2 T cl) (h3 : Rl w a3 n3 c3 T fn) (hn1 : n1 < 1000000) (hn2 : n2 ≤ 1000000) (hn3 : n3 ≤ 1000000) :
    Calls Tryz.prog 14 #[ptr q, .agg #[.slice a1 n1 c1, .slice a2 n2 c2, .slice a3 n3 c3]] w (Rpd w z q T (.slice a len cap) cs L lv cl fn) := by
  have gB := Grow.box w (.cells [.slice a1 n1 c1, .slice a2 n2 c2, .slice a3 n3 c3].toArray 44)
  have hbx := Blk.new w 44 [.slice a1 n1 c1, .slice a2 n2 c2, .slice a3 n3 c3]
  have hnb : ¬ T w.heap.size := fun hs => by have := (h.r.t hs).2; omega
  have HGB := hide gB
  have HN := hide (⟨hn1, hn2, hn3, h.l⟩ : n1 < 1000000 ∧ n2 ≤ 1000000 ∧ n3 ≤ 1000000 ∧ L.length < 1000000)
  have HCP := hide h.cap
  have HAL := hide h.all
  have HLK := hide h.o
  have HSZ := hide (show w.heap.size ≤ (w.alloc (.cells [.slice a1 n1 c1, .slice a2 n2 c2, .slice a3 n3 c3].toArray 44)).heap.size from gB.size)
  have HCC := hide (fun (W : World) (c : Chg T (w.alloc (.cells [.slice a1 n1 c1, .slice a2 n2 c2, .slice a3 n3 c3].toArray 44)) W) => hcc W ((gB.mono fun _ _ h => h.elim).trans c))
  have HBX := hide (fun (W : World) (c : Chg T (w.alloc (.cells [.slice a1 n1 c1, .slice a2 n2 c2, .slice a3 n3 c3].toArray 44)) W) => hbx.chg c hnb)
  have H1 := hide (fun (W : World) (c : Chg T (w.alloc (.cells [.slice a1 n1 c1, .slice a2 n2 c2, .slice a3 n3 c3].toArray 44)) W) => (h1.grow gB).chg c)
  have H2 := hide (fun (W : World) (c : Chg T (w.alloc (.cells [.slice a1 n1 c1, .slice a2 n2 c2, .slice a3 n3 c3].toArray 44)) W) => (h2.grow gB).chg c)
  have H3 := hide (fun (W : World) (c : Chg T (w.alloc (.cells [.slice a1 n1 c1, .slice a2 n2 c2, .slice a3 n3 c3].toArray 44)) W) => (h3.grow gB).chg c)
  have HG := hide (h.r.grow gB)
  have k1 := hbx.cell 1
  clear h h1 h2 h3 hn1 hn2 hn3 gB hbx hnb hcc
  go_enter Tryz.func14, Tryz.ntmps14
  go_wp2_with fail
  generalize w.alloc (.cells #[.slice a1 n1 c1, .slice a2 n2 c2, .slice a3 n3 c3] 44) = wB at *
  generalize hbb : w.heap.size = bb at *
  have HBB := hide hbb
  clear hbb
  clear k1
  go_loopw [13] (fun u wr => ∃ k : Nat, k ≤ n2 ∧ u = .int .i64 k ∧ Chg T wB wr ∧ RG wr z T q (.slice a len cap) (srs cs L (cl.take k))) (fun u _ => n2 - (Go.RowKit.intOf u).toNat)
  case atStart => exact ⟨0, Nat.zero_le _, rfl, Chg.refl _ _, HG.out⟩
  case round =>
    clear HG
    obtain ⟨k, hk, rfl, hc, hg⟩ := hrel
    rcases Nat.eq_or_lt_of_le hk with hke | hlt
    · have hke2 := hke.symm
      subst hke2
      clear hke
      have q1 : decide ((n2 : Int) < n2) = false := by simp
      have e0 : cl.take n2 = cl := by rw [← (H2.out _ hc).row.1, List.take_length]
      rw [e0] at hg
      have HC := hide hc
      have HG := hide hg
      have k2 := (HBX.out _ hc).cell 2
      have HSL := hide (srs_len (cs := cs) L cl)
      have HOK := hide (lok_srs HLK.out cl)
      clear hc hg hk e0
      obtain ⟨LC, hLC⟩ : ∃ LC, srs cs L cl = LC := ⟨_, rfl⟩
      have HLC := hide hLC
      rw [hLC] at HG HSL HOK
      clear hLC
      go_wp2_with fail
      clear k2
      go_loopw [47] (fun u wr => ∃ k : Nat, k ≤ n3 ∧ u = .int .i64 k ∧ Chg T wB wr ∧ RG wr z T q (.slice a len cap) (dns LC (fn.take k))) (fun u _ => n3 - (Go.RowKit.intOf u).toNat)
      case atStart => exact ⟨0, Nat.zero_le _, rfl, HC.out, HG.out⟩
      case round =>
        clear HC HG
        obtain ⟨k, hk, rfl, hc, hg⟩ := hrel
        rcases Nat.eq_or_lt_of_le hk with hke | hlt
        · have hke2 := hke.symm
          subst hke2
          clear hke
          have q1 : decide ((n3 : Int) < n3) = false := by simp
          have e0 : fn.take n3 = fn := by rw [← (H3.out _ hc).row.1, List.take_length]
          rw [e0] at hg
          have HC := hide hc
          have HKE := hide (keep_r hg (lok_dns HOK.out fn) (H1.out _ hc).row (by rw [dns_len, HSL.out]; exact HN.out.2.2.2) (Nat.le_of_lt HN.out.1))
          have k0 := (HBX.out _ hc).cell 0
          clear hc hg hk e0
          go_wp2_with fail
          refine HKE.out.mono ?_
          rintro e w9 ⟨rfl, c9, T', h9, h10⟩
          have HC9 := hide (HC.out.trans c9)
          have H9 := hide h9
          have H10 := hide (fun k hk => (h10 k hk).imp_right fun e => Nat.le_trans HSZ.out (Nat.le_trans HC.out.size e))
          clear c9 h9 h10 HKE k0
          go_wp2
          go_ret
          have e1 := HLC.out
          subst e1
          exact ⟨rfl, (HGB.out.mono fun _ _ h => h.elim).trans HC9.out, T', H9.out, fun k hk => by rw [HBB.out]; exact H10.out k hk⟩
        · have q1 : decide ((k : Int) < n3) = true := decide_eq_true (by omega)
          have q2 : k < n3 := hlt
          have hrow := (H3.out _ hc).row
          obtain ⟨x, rfl, hx, hi⟩ := hrow.at_ hlt
          have hw : IntKind.i64.wrap ((k : Int) + 1) = ((k + 1 : Nat) : Int) := (IntWalk.i64_in _ (by have := HN.out; omega)).trans (by omega)
          have htk := take_snoc' (xs := fn) (k := k) (by rw [hrow.1]; exact hlt)
          have HTK := hide (show dns LC (fn.take (k + 1)) = dnL (dns LC (fn.take k)) (fn.getD k 0) by rw [htk, dns_snoc])
          have hok := lok_dns HOK.out (fn.take k)
          have hll : (dns LC (fn.take k)).length < 1000000 := by rw [dns_len, HSL.out]; exact HN.out.2.2.2
          obtain ⟨LK, hLK⟩ : ∃ LK, dns LC (fn.take k) = LK := ⟨_, rfl⟩
          rw [hLK] at HTK hg hok hll
          generalize fn.getD k 0 = u at *
          have k2 := (HBX.out _ hc).cell 2
          have HC := hide hc
          have HLT := hide hlt
          cases hn : nd LK u with
          | none =>
            have HA := hide (at_no hg hn hll)
            have HN1 := hide (show RG wr z T q (.slice a len cap) (dns LC (fn.take (k + 1))) by rw [HTK.out, dn_no hn]; exact hg)
            clear hc hg hrow hi htk hlt hk hok hll hLK hn
            go_wp2_with fail
            refine HA.out.mono ?_
            rintro e w5 ⟨rfl, rfl⟩
            clear hx k2 HA
            go_wp2
            go_roundw
            case rel => exact ⟨k + 1, HLT.out, rfl, HC.out, HN1.out⟩
            case measure => have := HLT.out; simp [Go.RowKit.intOf]; omega
          | some y =>
            obtain ⟨j, hj, hjl⟩ := nd_at hn
            obtain ⟨hy, rfl⟩ := nd_some hn
            have HA := hide (at_yes hg hok.1 hj hll)
            obtain ⟨v, r, d, ow, hf⟩ := hg
            obtain ⟨g, vc, rfl, htg, -, hgq, -, -, -, -, x4⟩ := hf.at_ hj
            have c1 := hf.cell1
            have hlen : LK.length < 1000000 := hll
            have hfr : wr.frozen? ⟨g, j * 5 + 4, none⟩ = false := hf.own.frozenAt _
            have HN1 := hide (show Chg T wB (wr.setCell ⟨g, j * 5 + 4, none⟩ (.bool false)) ∧ RG (wr.setCell ⟨g, j * 5 + 4, none⟩ (.bool false)) z T q (.slice a len cap) (dns LC (fn.take (k + 1))) by
              rw [HTK.out, dn_at hok.1 hj]
              exact ⟨hc.setCell (fun _ => htg) _, .slice (some ⟨g, 0, none⟩) LK.length vc, r, d, ow, hf.done hok.1 hj fun p hp => (hok.2 p hp).id1⟩)
            obtain ⟨n, hnn⟩ : ∃ n, LK.length = n := ⟨_, rfl⟩
            rw [hnn] at c1 hjl hlen
            have q3 : decide ((j : Int) < (n : Int)) = true := decide_eq_true (by omega)
            have q4 : decide ((j : Int) ≥ 0) = true := decide_eq_true (by omega)
            clear hc hf hrow hi htk hlt hk hok hll hLK hn hj hy hnn hlen htg hgq
            go_wp2_with fail
            refine HA.out.mono ?_
            rintro e w5 ⟨rfl, rfl⟩
            clear hx k2 HA
            go_wp2
            go_roundw
            case rel => exact ⟨k + 1, HLT.out, rfl, HN1.out.1, HN1.out.2⟩
            case measure => have := HLT.out; simp [Go.RowKit.intOf]; omega
    · have q1 : decide ((k : Int) < n2) = true := decide_eq_true (by omega)
      have q2 : k < n2 := hlt
      have hrow := (H2.out _ hc).row
      obtain ⟨x, rfl, hx, hi⟩ := hrow.at_ hlt
      have hw : IntKind.i64.wrap ((k : Int) + 1) = ((k + 1 : Nat) : Int) := (IntWalk.i64_in _ (by have := HN.out; omega)).trans (by omega)
      have htk := take_snoc' (xs := cl) (k := k) (by rw [hrow.1]; exact hlt)
      have HTK := hide (show srs cs L (cl.take (k + 1)) = s1 cs (srs cs L (cl.take k)) (cl.getD k 0) by rw [htk, srs_snoc])
      have hok := lok_srs HLK.out (cl.take k)
      have hll : (srs cs L (cl.take k)).length < 1000000 := by rw [srs_len]; exact HN.out.2.2.2
      have k1 := (HBX.out _ hc).cell 1
      obtain ⟨LK, hLK⟩ : ∃ LK, srs cs L (cl.take k) = LK := ⟨_, rfl⟩
      rw [hLK] at HTK hg hok hll
      generalize cl.getD k 0 = u at *
      have HAI := hide (aim_r hg (HCC.out _ hc) hok HAL.out hll HCP.out (i := u))
      have HC := hide hc
      have HG := hide hg
      have HLT := hide hlt
      have HX := hide hx
      have HK1 := hide k1
      have HOK := hide hok
      have HLL := hide hll
      obtain ⟨t1, ht1⟩ : ∃ t1, (aimX cs LK u).1 = t1 := ⟨_, rfl⟩
      obtain ⟨t2, ht2⟩ : ∃ t2, (aimX cs LK u).2 = t2 := ⟨_, rfl⟩
      have HT2 := hide ht2
      rw [ht1, ht2] at HAI
      clear hc hg hrow hi htk hlt hk hLK ht1 ht2 hok hll
      go_wp2_with fail
      refine HAI.out.mono ?_
      rintro e w5 ⟨rfl, g5⟩
      dsimp only
      have hc5 : Chg T wB w5 := HC.out.trans (g5.mono fun _ _ h => h.elim)
      by_cases h2 : t2 = 0
      · have q3 : (t2 != 0) = false := by simp [h2]
        have HN1 := hide (show RG w5 z T q (.slice a len cap) (srs cs L (cl.take (k + 1))) by
          rw [HTK.out]
          unfold s1
          rw [if_pos (by rw [HT2.out]; exact h2)]
          exact HG.out.grow g5)
        have HC5 := hide hc5
        clear g5 hc5 h2 HAI hx k1
        go_wp2
        go_roundw
        case rel => exact ⟨k + 1, HLT.out, rfl, HC5.out, HN1.out⟩
        case measure => have := HLT.out; simp [Go.RowKit.intOf]; omega
      · have q3 : (t2 != 0) = true := by simp [h2]
        obtain ⟨j, y, hj, hjl, rfl, hyl, hs1⟩ := s1_at HOK.out (show (aimX cs LK u).2 ≠ 0 by rw [HT2.out]; exact h2)
        have gd : Grow wr w5.drew := g5.trans (Chg.refl _ w5).drew
        have hg5 := HG.out.grow gd
        have HA := hide ((at_yes hg5 HOK.out.1 hj HLL.out).mono fun e w' h => (⟨h.1, h.2.symm⟩ : e = .returned (.int .i64 j) ∧ w' = w5.drew))
        obtain ⟨v, r, d, ow, hf⟩ := hg5
        obtain ⟨g, vc, rfl, htg, -, hgq, -, -, x2, -, -⟩ := hf.at_ hj
        have c1 := hf.cell1
        have hnd := hf.nds y (List.mem_of_getElem? hj)
        have hfz := hnd.1.1.frozen 0
        have y0 : w5.drew.cell? ⟨r y.id, 0, none⟩ = some (.int .i64 (y.refs.getD 0 0)) := (hnd.1.1.cell 0).trans (ints_get _ _ hyl)
        have HN1 := hide (show Chg T wB (w5.drew.setCell ⟨r y.id, 0, none⟩ (.int .i64 0)) ∧ RG (w5.drew.setCell ⟨r y.id, 0, none⟩ (.int .i64 0)) z T q (.slice a len cap) (srs cs L (cl.take (k + 1))) by
          rw [HTK.out, hs1]
          exact ⟨(HC.out.trans (gd.mono fun _ _ h => h.elim)).setCell (fun _ => hnd.2.1.1) _, .slice (some ⟨g, 0, none⟩) LK.length vc, r, d, ow, hf.setRef HOK.out.1 hj (HOK.out.2 y (List.mem_of_getElem? hj)).id1 0 0⟩)
        obtain ⟨n, hnn⟩ : ∃ n, LK.length = n := ⟨_, rfl⟩
        obtain ⟨m, hm⟩ : ∃ m, y.refs.length = m := ⟨_, rfl⟩
        rw [hnn] at c1 hjl
        rw [hm] at x2 hyl
        replace hx := gd.cell HX.out
        replace k1 := gd.cell HK1.out
        have q5 : decide ((j : Int) < (n : Int)) = true := decide_eq_true (by omega)
        have q6 : decide ((0 : Int) < (m : Int)) = true := decide_eq_true (by omega)
        generalize y.refs.getD 0 0 = u0 at *
        generalize r y.id = rb at *
        clear g5 hc5 h2 HAI gd hf hnd hnn hm hs1 hj htg hgq
        go_wp2_with fail
        refine wp_region_still_tail 15 (by kernel_rfl) (by kernel_rfl) ?_
        simp only [List.take_succ_cons, List.take_zero, List.drop_succ_cons, List.drop_zero]
        repeat (
          refine wpStill_step (fun K hK => ?_)
          go_simp
          first
            | (refine hK _ ?_; clear hK K)
            | (refine ⟨_, HA.out, hK _ ?_⟩; clear hK K))
        refine wpStill_nil ?_
        change wpList _ _ _ _ _ (World.drew _)
        go_wp2
        go_roundw
        case rel => exact ⟨k + 1, HLT.out, rfl, HN1.out.1, HN1.out.2⟩
        case measure => have := HLT.out; simp [Go.RowKit.intOf]; omega
end
end Go.Proofs.YtjfpjnhlnoiekaaGreat.L13
