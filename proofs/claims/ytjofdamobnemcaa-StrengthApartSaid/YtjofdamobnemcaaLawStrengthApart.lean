/- For all worlds and roots StrengthApart answers true: a node that no root leads to, by any reference, and that no node that is Final leads to, is Gone. Conditions: none. -/
import Derived.Test.YtjofdamobnemcaaL10E
import Derived.Test.YtjofdamobnemcaaL10Sb
import Derived.BigRegion
namespace Go.Proofs.Ytjofdamobnemcaa.strengthApart
open Go.ChangeShapes Go.WideShapes Go.ChangeAt Go.RowKit Go.Proofs.Ytjofdamobnemcaa.L10
open Go.Proofs.Ytjofdamobnemcaa.L9 (Nd nd GS RG Rf Lok In64 Srt nd_some nd_none nd_mem own_rd own_cast ptr newX_rt hasB hldX aimX wpList_app)
open Go.Proofs.Ytjofdamobnemcaa.L5 (Cl clAt isRf IsCls newX)
set_option linter.unusedVariables false
section
variable {w : World} {u : Wo} {cs : List Cl} {ns : List Int} {ts : List Tr} {a1 : Option Addr} {len1 cap1 : Nat} {zs : List Int}
/-- What is in, with all that it refers to. -/
def Cls (L : List Nd) (f : Int → Bool) : Prop := ∀ x ∈ L, f x.id = true → ∀ y ∈ x.refs, f y = true
/-- How many nodes are in. -/
def cntN (L : List Nd) (f : Int → Bool) : Nat := (L.filter fun x => f x.id).length
theorem cnt_le {L : List Nd} {q f : Int → Bool} (up : ∀ i, q i = true → f i = true) : cntN L q ≤ cntN L f := by
  unfold cntN
  induction L with
  | nil => simp
  | cons a l ih =>
    rw [List.filter_cons, List.filter_cons]
    cases hq : q a.id with
    | true => rw [if_pos rfl, if_pos (up _ hq)]; simpa using ih
    | false =>
      rw [if_neg (by simp)]
      split
      · exact Nat.le_succ_of_le ih
      · exact ih
theorem cnt_lt {L : List Nd} {q f : Int → Bool} (up : ∀ i, q i = true → f i = true) {x : Nd} (hx : x ∈ L) (h1 : f x.id = true) (h2 : q x.id = false) : cntN L q + 1 ≤ cntN L f := by
  induction L with
  | nil => cases hx
  | cons a l ih =>
    have hle := cnt_le (L := l) up
    unfold cntN at ih hle ⊢
    rw [List.filter_cons, List.filter_cons]
    rcases List.mem_cons.1 hx with rfl | hm
    · rw [h1, h2, if_neg (by simp), if_pos rfl]
      exact Nat.succ_le_succ hle
    · have := ih hm
      cases hq : q a.id with
      | true => rw [if_pos rfl, if_pos (up _ hq)]; simpa using this
      | false =>
        rw [if_neg (by simp)]
        split
        · exact Nat.le_succ_of_le this
        · exact this
theorem cnt_all {L : List Nd} {f : Int → Bool} (h : L.length ≤ cntN L f) : ∀ x ∈ L, f x.id = true := by
  have : (L.filter fun x => f x.id).length = L.length := Nat.le_antisymm (List.length_filter_le _ _) h
  exact List.length_filter_eq_length_iff.1 this
/-- What stands behind each step: the map, and what is in. -/
structure Ap (w4 wr : World) (L : List Nd) (zs : List Int) (n : Nat) (f : Int → Bool) : Prop where
  sb : Sb wr w4.heap.size n f
  gw : Grow w4 wr
  ro : ∀ i ∈ zs, f i = true
  fi : ∀ x ∈ L, x.fin = true → f x.id = true
theorem Ap.put {w4 wr W2 : World} {L : List Nd} {zs : List Int} {n : Nat} {f : Int → Bool} (h : Ap w4 wr L zs n f) {y : Int} (hs : Sb W2 w4.heap.size (n + 1) (fun i => if i = y then true else f i)) (c : Chg (· = w4.heap.size) wr W2) : Ap w4 W2 L zs (n + 1) (fun i => if i = y then true else f i) :=
  ⟨hs, h.gw.step c fun i hi e => by omega, fun i hi => by
    show (if i = y then true else f i) = true
    split
    · rfl
    · exact h.ro i hi, fun x hx hf => by
    show (if x.id = y then true else f x.id) = true
    split
    · rfl
    · exact h.fi x hx hf⟩
/-- Within a round: q is what was in at its beginning. -/
structure In (L : List Nd) (q f : Int → Bool) (k : Nat) : Prop where
  up : ∀ i, q i = true → f i = true
  cl : Cls L q → ∀ i, f i = true → q i = true
  nx : ∀ x ∈ L.take k, q x.id = true → ∀ y ∈ x.refs, f y = true
theorem In.start (L : List Nd) (q : Int → Bool) : In L q q 0 := ⟨fun _ h => h, fun _ _ h => h, by simp⟩
theorem In.one {L : List Nd} {q f : Int → Bool} {k : Nat} {x : Nd} (h : In L q f k) (hx : L[k]? = some x) (hf : q x.id = true → ∀ y ∈ x.refs, f y = true) : In L q f (k + 1) :=
  ⟨h.up, h.cl, fun z hz hq => by
    rw [take_step hx] at hz
    rcases List.mem_append.1 hz with hz | hz
    · exact h.nx z hz hq
    · rw [List.mem_singleton.1 hz] at hq ⊢; exact hf hq⟩
theorem In.put {L : List Nd} {q f : Int → Bool} {k : Nat} {x : Nd} (h : In L q f k) (hx : x ∈ L) (hfx : f x.id = true) {y : Int} (hy : y ∈ x.refs) : In L q (fun i => if i = y then true else f i) k :=
  ⟨fun i hi => by
    show (if i = y then true else f i) = true
    split
    · rfl
    · exact h.up i hi, fun hc i hi => by
    replace hi : (if i = y then true else f i) = true := hi
    split at hi
    · rename_i e; subst e; exact hc x hx (h.cl hc _ hfx) _ hy
    · exact h.cl hc i hi, fun z hz hq v hv => by
    show (if v = y then true else f v) = true
    split
    · rfl
    · exact h.nx z hz hq v hv⟩
theorem In.done {L : List Nd} {q f : Int → Bool} {r : Nat} (h : In L q f L.length) (hr : Cls L q ∨ r ≤ cntN L q) : Cls L f ∨ r + 1 ≤ cntN L f := by
  have hn : ∀ x ∈ L, q x.id = true → ∀ y ∈ x.refs, f y = true := fun x hx => h.nx x (by rw [List.take_length]; exact hx)
  rcases hr with hc | hr
  · exact .inl fun x hx hf => hn x hx (h.cl hc _ hf)
  · by_cases hd : ∀ x ∈ L, f x.id = true → q x.id = true
    · exact .inl fun x hx hf => hn x hx (hd x hx hf)
    · obtain ⟨x, hx⟩ := Classical.not_forall.1 hd
      obtain ⟨hm, hx⟩ := Classical.not_imp.1 hx
      obtain ⟨h1, h2⟩ := Classical.not_imp.1 hx
      have := cnt_lt h.up hm h1 (by simpa using h2)
      exact .inr (by omega)
theorem has_n {W : World} {b n cap : Nat} {a : Option Addr} {xs : List Int} (h : OL W b (.slice a n cap) xs) (hn : xs.length = n) (hi : ∀ i ∈ xs, In64 i) (hl : xs.length ≤ 1000000) (y : Int) :
    Calls Try.prog 27 #[.slice a n cap, .int .i64 y] W fun e w' => e = .returned (.bool (hasB xs y)) ∧ Grow W w' := by
  subst hn
  exact has_ol h hi hl y
set_option maxRecDepth 100000 in
set_option maxHeartbeats 2000000 in
theorem walk_no (h0 : IsWo w u cs ns ts) (h1 : IsRow .i64 w a1 len1 cap1 zs) (hg : ¬ good u cs ∨ (good u cs ∧ 40 < len1)) :
    Calls Try.prog 4 #[Wo.v u, .slice a1 len1 cap1] w fun e w' => e = .returned (.bool true) ∧ Below w.heap.size w w' := by
  rcases hg with hg | hg
  · skip
    obtain ⟨ca, cl, cc, na, nl, nc, ra, rl, rc⟩ := u
    have hbx := Blk.new w 26 [.slice ca cl cc, .slice na nl nc, .slice ra rl rc]
    have gB := Grow.box w (.cells [.slice ca cl cc, .slice na nl nc, .slice ra rl rc].toArray 26)
    have HWO := hide (h0.chg gB fun _ _ => id)
    have HRW := hide h1
    have HBX := hide hbx
    clear h0 h1 hbx
    have HM := hide (made_no HWO.out hg)
    clear hg HWO HRW HBX
    go_enter Try.func4, Try.ntmps4
    go_wp2_with fail
    refine HM.out.mono ?_
    rintro e w3 ⟨rfl, c3⟩
    have HG := hide (gB.trans c3)
    clear gB c3 HM
    go_wp2_with fail
    refine (awake_any _).mono ?_
    rintro e w4 ⟨rfl, c4⟩
    have HG4 := hide (HG.out.trans c4)
    clear c4
    go_wp2_with fail
    refine (awake_any _).mono ?_
    rintro e w5 ⟨rfl, c5⟩
    have HG5 := hide (HG4.out.trans c5)
    clear c5
    go_wp2
    go_ret
    exact ⟨rfl, HG5.out.below (fun _ _ h => h) (Nat.le_refl _)⟩
  · obtain ⟨hg, hlen⟩ := hg
    obtain ⟨ca, cl, cc, na, nl, nc, ra, rl, rc⟩ := u
    have hbx := Blk.new w 26 [.slice ca cl cc, .slice na nl nc, .slice ra rl rc]
    have gB := Grow.box w (.cells [.slice ca cl cc, .slice na nl nc, .slice ra rl rc].toArray 26)
    have HWO := hide (h0.chg gB fun _ _ => id)
    have HRW := hide h1
    have HBX := hide hbx
    clear h0 h1 hbx
    have HM := hide (made_yes HWO.out hg)
    have q1 : decide ((len1 : Int) > 40) = true := by simp; omega
    clear hg HWO HRW HBX hlen
    go_enter Try.func4, Try.ntmps4
    go_wp2_with fail
    refine HM.out.mono ?_
    rintro e w3 ⟨z, p, q, L, rfl, -, -, -, -, c3⟩
    have HG := hide (gB.trans c3)
    clear gB c3 HM
    go_wp2_with fail
    refine (awake_any _).mono ?_
    rintro e w4 ⟨rfl, c4⟩
    have HG4 := hide (HG.out.trans c4)
    clear c4
    go_wp2_with fail
    refine (awake_any _).mono ?_
    rintro e w5 ⟨rfl, c5⟩
    have HG5 := hide (HG4.out.trans c5)
    clear c5
    go_wp2
    go_ret
    exact ⟨rfl, HG5.out.below (fun _ _ h => h) (Nat.le_refl _)⟩
set_option maxRecDepth 100000 in
set_option maxHeartbeats 8000000 in
theorem walk_main (h0 : IsWo w u cs ns ts) (h1 : IsRow .i64 w a1 len1 cap1 zs) (hg : good u cs) (hle : len1 ≤ 40) :
    Calls Try.prog 4 #[Wo.v u, .slice a1 len1 cap1] w fun e w' => e = .returned (.bool true) ∧ Below w.heap.size w w' := by
  obtain ⟨ca, cl, cc, na, nl, nc, ra, rl, rc⟩ := u
  have hbx := Blk.new w 26 [.slice ca cl cc, .slice na nl nc, .slice ra rl rc]
  have gB := Grow.box w (.cells [.slice ca cl cc, .slice na nl nc, .slice ra rl rc].toArray 26)
  have HWO := hide (h0.chg gB fun _ _ => id)
  have HRW := hide h1
  have HBX := hide hbx
  clear h0 h1 hbx
  have HM := hide (made_yes HWO.out hg)
  have q1 : decide ((len1 : Int) > 40) = false := by simp; omega
  have HGD := hide (show nl ≤ 40 ∧ newX cs = 0 ∧ cl ≤ 63 from ⟨hg.1.1, hg.2.2, hg.2.1.2⟩)
  have HLE := hide hle
  clear hg hle
  go_enter Try.func4, Try.ntmps4
  go_wp2_with fail
  refine HM.out.mono ?_
  rintro e w3 ⟨z, p, q, L, rfl, hbo, hids, hrv, -, c3⟩
  obtain ⟨S, T, hgs, hrg, hap⟩ := hbo
  obtain ⟨b, hb⟩ : ∃ b, w.heap.size = b := ⟨_, rfl⟩
  have hst : St w w3 b z p q S T ca cl cc na nl nc ra rl rc cs L a1 len1 cap1 zs := ⟨gB.trans c3, hgs, ⟨hrg, HWO.out.c.chg c3 fun _ _ => id, hgs.lok, (newX_rt HGD.out.2.1).1, by have := congrArg List.length hids; rw [List.length_map, nms_len] at this; have := HGD.out.1; omega, by have := HGD.out.2.2; omega⟩, hap, HRW.out.chg (gB.trans c3) fun _ _ => id, by rw [← hb]; exact HBX.out.chg c3 id, hids, HGD.out.1, hrv, HLE.out⟩
  rw [hb]
  clear gB c3 HM hids hrv hgs hrg hap HWO HRW HBX HGD HLE hb
  go_wp2_with fail
  refine (awake_any _).mono ?_
  rintro e w4 ⟨rfl, c4⟩
  have HST := hide (hst.grow c4)
  clear c4 hst

  obtain ⟨F, hF⟩ := ex_of cs L zs
  have hz := HST.out.z40
  have HZ40 := hide hz
  have HF := hide hF
  have HZL := hide HST.out.row.1
  have HN40 := hide HST.out.n40
  have hmm := @run_makeMap Try.prog
  obtain ⟨v, r, d, ow, hrf⟩ := HST.out.pg.r
  obtain ⟨va, vc, rfl⟩ := hrf.val
  have hln := HST.out.len
  rw [hln] at hrf
  have HRF := hide hrf
  have HLN := hide hln
  have HC1 := hide hrf.cell1
  have HSR := hide HST.out.gs.srt
  have hs0 := Sb.made w4
  have gm := Grow.box w4 (.map #[] 0)
  have HM0 := hide (And.intro hs0 gm)
  have HMG := hide (Nat.le_refl w4.heap.size)
  clear hF hrf hln hs0 gm
  go_wp2_with fail
  clear hmm
  go_loopw [35] (fun v wr => ∃ (k n : Nat) (f : Int → Bool), k ≤ len1 ∧ v = .int .i64 k ∧ Sb wr w4.heap.size n f ∧ n ≤ k ∧ Grow w4 wr ∧ (∀ j, j < k → f (zs.getD j 0) = true)) (fun v _ => len1 - (Go.RowKit.intOf v).toNat)
  case atStart => exact ⟨0, 0, _, Nat.zero_le _, rfl, HM0.out.1, Nat.le_refl _, HM0.out.2, fun j h => by omega⟩
  case round =>
    clear HM0
    obtain ⟨k, n, f, hk, rfl, hsb, hn, hg, hro⟩ := hrel
    rcases Nat.eq_or_lt_of_le hk with hke | hlt
    · have hke2 := hke.symm
      subst hke2
      have q2 : decide ((len1 : Int) < len1) = false := by simp
      have HSB := hide hsb
      have HG := hide hg
      have HNB := hide (show n ≤ 40 by omega)
      have HRO := hide (show ∀ i ∈ zs, f i = true from fun i hi => by
        obtain ⟨j, hj, rfl⟩ := List.getElem_of_mem hi
        have := hro j (by rw [← HZL.out]; exact hj)
        rwa [List.getD_eq_getElem?_getD, List.getElem?_eq_getElem hj] at this)
      have c1 := hg.cell HC1.out
      clear hsb hg hn hro hk hke
      go_wp2_with fail
      clear c1
      go_loopw [49] (fun v wr => ∃ (k n : Nat) (f : Int → Bool), k ≤ nl ∧ v = .int .i64 k ∧ Sb wr w4.heap.size n f ∧ n ≤ 40 + k ∧ Grow w4 wr ∧ (∀ i ∈ zs, f i = true) ∧ (∀ x ∈ L.take k, x.fin = true → f x.id = true)) (fun v _ => nl - (Go.RowKit.intOf v).toNat)
      case atStart => exact ⟨0, n, f, Nat.zero_le _, rfl, HSB.out, by have := HNB.out; omega, HG.out, HRO.out, by simp⟩
      case round =>
        clear HSB HG HNB HRO
        obtain ⟨k, n, f, hk, rfl, hsb, hn, hg, hro, hfi⟩ := hrel
        have c1 := hg.cell HC1.out
        rcases Nat.eq_or_lt_of_le hk with hke | hlt
        · have hke2 := hke.symm
          subst hke2
          have q3 : decide ((nl : Int) < nl) = false := by simp
          have HSB := hide hsb
          have HG := hide hg
          have HNB := hide (show n ≤ 80 by have := HN40.out; omega)
          have HRO := hide hro
          have HFI := hide (show ∀ x ∈ L, x.fin = true → f x.id = true from fun x hx => hfi x (by rw [← HLN.out, List.take_length]; exact hx))
          clear hsb hg hn hro hfi hk hke
          have HAP := hide (⟨HSB.out, HG.out, HRO.out, HFI.out⟩ : Ap w4 wr L zs n f)
          clear HSB HG HRO HFI
          go_wp2_with fail
          clear c1
          go_loopw [87] (fun v wr => ∃ (e n : Nat) (f : Int → Bool), e ≤ nl ∧ v = .int .i64 e ∧ Ap w4 wr L zs n f ∧ n ≤ 80 + 1200 * e ∧ (Cls L f ∨ e ≤ cntN L f)) (fun v _ => nl - (Go.RowKit.intOf v).toNat)
          case atStart => exact ⟨0, n, f, Nat.zero_le _, rfl, HAP.out, by have := HNB.out; omega, .inr (Nat.zero_le _)⟩
          case round =>
            clear HAP HNB
            obtain ⟨e, n, f, he, rfl, hap, hn, hcl⟩ := hrel
            have c1 := hap.gw.cell HC1.out
            rcases Nat.eq_or_lt_of_le he with hee | hlt
            · have hee2 := hee.symm
              subst hee2
              have q4 : decide ((nl : Int) < nl) = false := by simp
              have HAP := hide hap
              have HCL := hide (show ∀ x ∈ L, f x.id = true → ∀ y ∈ x.refs, nd L y ≠ none → f y = true from fun x hx hf y hy hn => by
                rcases hcl with hc | hc
                · exact hc x hx hf y hy
                · obtain ⟨z, hz⟩ := Option.ne_none_iff_exists'.1 hn
                  obtain ⟨h1, rfl⟩ := nd_some hz
                  exact cnt_all (by rw [HLN.out]; exact hc) z h1)
              clear hap hn hcl he hee
              go_wp2_with fail
              clear c1
              go_loopw [139] (fun v wr => ∃ k : Nat, k ≤ nl ∧ v = .int .i64 k ∧ Ap w4 wr L zs n f) (fun v _ => nl - (Go.RowKit.intOf v).toNat)
              case atStart => exact ⟨0, Nat.zero_le _, rfl, HAP.out⟩
              case round =>
                clear HAP
                obtain ⟨k, hk, rfl, hap⟩ := hrel
                rcases Nat.eq_or_lt_of_le hk with hke | hlt
                · have hke2 := hke.symm
                  subst hke2
                  have q5 : decide ((nl : Int) < nl) = false := by simp
                  have HE := hide (HST.out.grow hap.gw)
                  clear hap hk hke
                  go_wp2
                  go_ret
                  exact ⟨rfl, HE.out.end_⟩
                · have q5 : decide ((k : Int) < nl) = true := decide_eq_true (by omega)
                  have hwk : IntKind.i64.wrap ((k : Int) + 1) = ((k + 1 : Nat) : Int) := (IntWalk.i64_in _ (by have := HN40.out; omega)).trans (by omega)
                  have c1 := hap.gw.cell HC1.out
                  obtain ⟨x, hx⟩ : ∃ x, L[k]? = some x := ⟨_, List.getElem?_eq_getElem (by rw [HLN.out]; exact hlt)⟩
                  have hxm := List.mem_of_getElem? hx
                  obtain ⟨gn, rfl, -, -, -, x0, -⟩ := HRF.out.at2 hx
                  replace x0 := hap.gw.cell x0
                  have hok := HST.out.gs.ok hxm
                  have hlk := hap.sb.look hok.id2
                  have HK := hide hlt
                  have HAP := hide hap
                  have HOF := hide (fun hf : f x.id = false => apart HSR.out (fun y hy => (HST.out.gs.ok hy).id1) HF.out hap.ro hap.fi HCL.out hf)
                  have HO := hide (((HST.out.grow hap.gw).of_ (c := cap1) (HST.out.grow hap.gw).rd (by have := HZ40.out; omega) HST.out.i64 HF.out hok.id2))
                  obtain ⟨xi, hxe⟩ : ∃ xi, x.id = xi := ⟨_, rfl⟩
                  rw [hxe] at x0 hlk HOF HO
                  cases hf : f xi with
                  | true =>
                    rw [hf] at hlk
                    clear hap hk hlt hok hx hxm hxe hf HOF HO
                    go_wp2
                    go_roundw
                    case rel => exact ⟨k + 1, HK.out, rfl, HAP.out⟩
                    case measure => have := HK.out; simp [Go.RowKit.intOf]; omega
                  | false =>
                    rw [HOF.out hf] at HO
                    rw [hf] at hlk
                    clear hap hk hlt hok hx hxm hxe hf HOF
                    go_wp2_with fail
                    refine HO.out.mono ?_
                    rintro e1 w11 ⟨rfl, c11⟩
                    have HA2 := hide (⟨HAP.out.sb.grow c11, HAP.out.gw.trans c11, HAP.out.ro, HAP.out.fi⟩ : Ap w4 w11 L zs n f)
                    clear c11 HO HAP hlk x0 c1
                    go_wp2
                    go_roundw
                    case rel => exact ⟨k + 1, HK.out, rfl, HA2.out⟩
                    case measure => have := HK.out; simp [Go.RowKit.intOf]; omega
            · have q4 : decide ((e : Int) < nl) = true := decide_eq_true (by omega)
              have hwe : IntKind.i64.wrap ((e : Int) + 1) = ((e + 1 : Nat) : Int) := (IntWalk.i64_in _ (by have := HN40.out; omega)).trans (by omega)
              have HAP := hide hap
              have HE := hide hlt
              have HNB := hide hn
              have HCL := hide hcl
              clear hap hn hcl he hlt
              go_wp2_with fail
              clear c1
              go_loopw [94] (fun v wr => ∃ (k m : Nat) (g : Int → Bool), k ≤ nl ∧ v = .int .i64 k ∧ Ap w4 wr L zs m g ∧ In L f g k ∧ m ≤ n + 30 * k) (fun v _ => nl - (Go.RowKit.intOf v).toNat)
              case atStart => exact ⟨0, n, f, Nat.zero_le _, rfl, HAP.out, In.start L f, by omega⟩
              case round =>
                clear HAP
                obtain ⟨k, m, g, hk, rfl, hap, hin, hm⟩ := hrel
                have c1 := hap.gw.cell HC1.out
                rcases Nat.eq_or_lt_of_le hk with hke | hlt
                · have hke2 := hke.symm
                  subst hke2
                  have q5 : decide ((nl : Int) < nl) = false := by simp
                  have HAP := hide hap
                  have HM := hide (show m ≤ 80 + 1200 * (e + 1) by have := HNB.out; have := HN40.out; omega)
                  have HCL2 := hide (In.done (by rw [HLN.out]; exact hin) HCL.out)
                  clear hap hin hm hk hke c1
                  go_wp2
                  go_roundw
                  case rel => exact ⟨e + 1, m, g, HE.out, rfl, HAP.out, HM.out, HCL2.out⟩
                  case measure => have := HE.out; simp [Go.RowKit.intOf]; omega
                · have q5 : decide ((k : Int) < nl) = true := decide_eq_true (by omega)
                  have hwk : IntKind.i64.wrap ((k : Int) + 1) = ((k + 1 : Nat) : Int) := (IntWalk.i64_in _ (by have := HN40.out; omega)).trans (by omega)
                  obtain ⟨x, hx⟩ : ∃ x, L[k]? = some x := ⟨_, List.getElem?_eq_getElem (by rw [HLN.out]; exact hlt)⟩
                  have hxm := List.mem_of_getElem? hx
                  obtain ⟨gn, rfl, -, -, -, x0, -, x2, -, -⟩ := HRF.out.at2 hx
                  have HB := hide (HRF.out.nds x hxm).1.1
                  have hok := HST.out.gs.ok hxm
                  have HXI := hide hok.id2
                  have HRI := hide hok.rw_
                  have HRL := hide hok.rl
                  obtain ⟨ln, hln2⟩ : ∃ ln, x.refs.length = ln := ⟨_, rfl⟩
                  obtain ⟨rb, hrb⟩ : ∃ rb, r x.id = rb := ⟨_, rfl⟩
                  rw [hln2] at HRL x2
                  rw [hrb] at HB x2
                  have HX0 := hide x0
                  have HX2 := hide x2
                  have HLX := hide hln2
                  have HXM := hide hxm
                  have HKX := hide hx
                  replace x0 := hap.gw.cell x0
                  replace x2 := hap.gw.cell x2
                  have HAP := hide hap
                  have HIN := hide hin
                  have HM := hide hm
                  have HK := hide hlt
                  clear hap hin hm hk hlt hok hln2 hrb hx hxm
                  go_wp2_with fail
                  clear x0 x2 c1
                  go_loopw [106] (fun v wr => ∃ (j m2 : Nat) (g2 : Int → Bool), j ≤ ln ∧ v = .int .i64 j ∧ Ap w4 wr L zs m2 g2 ∧ In L f g2 k ∧ (f x.id = true → ∀ y ∈ x.refs.take j, g2 y = true) ∧ m2 ≤ m + j) (fun v _ => ln - (Go.RowKit.intOf v).toNat)
                  case atStart => exact ⟨0, m, g, Nat.zero_le _, rfl, HAP.out, HIN.out, by simp, by omega⟩
                  case round =>
                    clear HAP HIN
                    obtain ⟨j, m2, g2, hj, rfl, hap, hin, hrf, hm2⟩ := hrel
                    rcases Nat.eq_or_lt_of_le hj with hje | hlt
                    · have hje2 := hje.symm
                      subst hje2
                      have q6 : decide ((ln : Int) < ln) = false := by simp
                      have HAP := hide hap
                      have HIN := hide (hin.one HKX.out (fun hq y hy => hrf hq y (by rw [← HLX.out, List.take_length]; exact hy)))
                      have HM2 := hide (show m2 ≤ n + 30 * (k + 1) by have := HM.out; have := HRL.out; omega)
                      clear hap hin hrf hm2 hj hje
                      go_wp2
                      go_roundw
                      case rel => exact ⟨k + 1, m2, g2, HK.out, rfl, HAP.out, HIN.out, HM2.out⟩
                      case measure => have := HK.out; simp [Go.RowKit.intOf]; omega
                    · have q6 : decide ((j : Int) < ln) = true := decide_eq_true (by omega)
                      have q7 : j < ln := hlt
                      have hwj : IntKind.i64.wrap ((j : Int) + 1) = ((j + 1 : Nat) : Int) := (IntWalk.i64_in _ (by have := HRL.out; omega)).trans (by omega)
                      have c1 := hap.gw.cell HC1.out
                      have x0 := hap.gw.cell HX0.out
                      have x2 := hap.gw.cell HX2.out
                      have hlk := hap.sb.look HXI.out
                      have hjl : j < x.refs.length := by rw [HLX.out]; exact hlt
                      have ht : x.refs.take (j + 1) = x.refs.take j ++ [x.refs.getD j 0] := by
                        rw [List.take_add_one, List.getElem?_eq_getElem hjl, List.getD_eq_getElem?_getD, List.getElem?_eq_getElem hjl]
                        rfl
                      have hym := getD_mem hjl
                      have cy : wr.cell? ⟨rb, j, none⟩ = some (.int .i64 (x.refs.getD j 0)) := by
                        rw [(HB.out.chg hap.gw id).cell j]
                        exact ints_get _ _ hjl
                      obtain ⟨y, hy⟩ : ∃ y, x.refs.getD j 0 = y := ⟨_, rfl⟩
                      rw [hy] at ht hym cy
                      have HJ := hide hlt
                      cases hb : g2 x.id with
                      | true =>
                        obtain ⟨W2, hp, hs2, c2⟩ := hap.sb.put (HRI.out y hym) (by unfold maxLen; have := HM.out; have := HNB.out; have := HN40.out; have := HRL.out; have := HE.out; have := HK.out; omega) true
                        have HNW := hide (⟨hap.put hs2 c2, hin.put HXM.out hb hym, fun hq z hz => by
                          rw [ht] at hz
                          show (if z = y then true else g2 z) = true
                          rcases List.mem_append.1 hz with hz | hz
                          · split
                            · rfl
                            · exact hrf hq z hz
                          · rw [if_pos (List.mem_singleton.1 hz)], by omega⟩ : Ap w4 W2 L zs (m2 + 1) (fun i => if i = y then true else g2 i) ∧ In L f (fun i => if i = y then true else g2 i) k ∧ (f x.id = true → ∀ z ∈ x.refs.take (j + 1), (fun i => if i = y then true else g2 i) z = true) ∧ m2 + 1 ≤ m + (j + 1))
                        rw [hb] at hlk
                        clear hap hin hrf hm2 hj hlt hjl ht hym hy hs2 c2 hb
                        obtain ⟨xi, hxe⟩ : ∃ xi, x.id = xi := ⟨_, rfl⟩
                        rw [hxe] at x0 hlk
                        have HXE := hide hxe
                        clear hxe
                        go_wp2
                        go_roundw
                        case rel => exact ⟨j + 1, m2 + 1, _, HJ.out, rfl, HNW.out⟩
                        case measure => have := HJ.out; simp [Go.RowKit.intOf]; omega
                      | false =>
                        have HNW := hide (⟨hap, hin, fun hq => (by have := hin.up _ hq; rw [hb] at this; cases this), by omega⟩ : Ap w4 wr L zs m2 g2 ∧ In L f g2 k ∧ (f x.id = true → ∀ z ∈ x.refs.take (j + 1), g2 z = true) ∧ m2 ≤ m + (j + 1))
                        rw [hb] at hlk
                        clear hap hin hrf hm2 hj hlt hjl ht hym hy hb
                        obtain ⟨xi, hxe⟩ : ∃ xi, x.id = xi := ⟨_, rfl⟩
                        rw [hxe] at x0 hlk
                        have HXE := hide hxe
                        clear hxe
                        go_wp2
                        go_roundw
                        case rel => exact ⟨j + 1, m2, _, HJ.out, rfl, HNW.out⟩
                        case measure => have := HJ.out; simp [Go.RowKit.intOf]; omega
        · have q3 : decide ((k : Int) < nl) = true := decide_eq_true (by omega)
          have hw : IntKind.i64.wrap ((k : Int) + 1) = ((k + 1 : Nat) : Int) := (IntWalk.i64_in _ (by have := HN40.out; omega)).trans (by omega)
          obtain ⟨x, hx⟩ : ∃ x, L[k]? = some x := ⟨_, List.getElem?_eq_getElem (by rw [HLN.out]; exact hlt)⟩
          obtain ⟨gn, rfl, -, -, -, x0, -, -, -, x4⟩ := HRF.out.at2 hx
          replace x0 := hg.cell x0
          replace x4 := hg.cell x4
          have hxi := (HST.out.gs.ok (List.mem_of_getElem? hx)).id2
          have hlk := hsb.look hxi
          have hst := take_step hx
          have HK := hide hlt
          have hput := fun b => (hsb.grow (Chg.refl (fun _ => False) wr).drew).put hxi (by unfold maxLen; have := HN40.out; omega) b
          have hnw := fun (b : Bool) W2 (hsb2 : Sb W2 w4.heap.size (n + 1) (fun y => if y = x.id then b else f y)) (c2 : Chg (· = w4.heap.size) wr.drew W2) (hb : f x.id = true → b = true) (hb2 : x.fin = true → b = true) => (⟨hsb2, by omega, (hg.drew).step c2 fun i hi e => by omega, fun i hi => by
              show (if _ then b else f i) = true
              split
              · rename_i h; exact hb (by rw [← h]; exact hro i hi)
              · exact hro i hi, fun y hy hyf => by
              rw [hst] at hy
              show (if _ then b else f y.id) = true
              split
              · rename_i h
                rcases List.mem_append.1 hy with hy | hy
                · exact hb (by rw [← h]; exact hfi y hy hyf)
                · rw [List.mem_singleton.1 hy] at hyf; exact hb2 hyf
              · rename_i h
                rcases List.mem_append.1 hy with hy | hy
                · exact hfi y hy hyf
                · rw [List.mem_singleton.1 hy] at h; exact absurd rfl h⟩ : Sb W2 w4.heap.size (n + 1) (fun y => if y = x.id then b else f y) ∧ n + 1 ≤ 40 + (k + 1) ∧ Grow w4 W2 ∧ (∀ i ∈ zs, (fun y => if y = x.id then b else f y) i = true) ∧ (∀ y ∈ L.take (k + 1), y.fin = true → (fun y => if y = x.id then b else f y) y.id = true))
          have hlkd := (hsb.grow (Chg.refl (fun _ => False) wr).drew).look hxi
          cases hf : f x.id with
          | true =>
            obtain ⟨W2, hp, hs2, c2⟩ := hput true
            have HNW := hide (hnw true W2 hs2 c2 (fun _ => rfl) (fun _ => rfl))
            rw [hf] at hlk hlkd
            obtain ⟨xi, hxe⟩ : ∃ xi, x.id = xi := ⟨_, rfl⟩
            obtain ⟨fb, hfb⟩ : ∃ fb, x.fin = fb := ⟨_, rfl⟩
            first
              | rw [hfb] at x4
              | skip
            have hkW : W2.cell? ⟨q, 1, none⟩ = some (.slice (some ⟨gn, 0, none⟩) nl vc) ∧ W2.cell? ⟨gn, k * 5, none⟩ = some (.int .i64 x.id) := ⟨HNW.out.2.2.1.cell HC1.out, by
              obtain ⟨gn', e', -, -, -, y0, -⟩ := HRF.out.at2 hx
              injection e' with e'
              injection e' with e'
              subst e'
              exact HNW.out.2.2.1.cell y0⟩
            rw [hxe] at x0 hlk hlkd hp hkW
            have HXE := hide hxe
            clear hsb hn hg hro hfi hx hst hput hnw hxi hs2 c2 hf hlt hk hxe hfb
            go_wp2_with fail
            go_big_region
            clear x0 hlk hlkd c1 hkW
            go_wp2
            go_roundw
            case rel => exact ⟨k + 1, n + 1, _, HK.out, rfl, HNW.out⟩
            case measure => have := HK.out; simp [Go.RowKit.intOf]; omega
          | false =>
            rw [hf] at hlk hlkd
            cases hxf : x.fin with
            | true =>
              obtain ⟨W2, hp, hs2, c2⟩ := hput true
              have HNW := hide (hnw true W2 hs2 c2 (fun _ => rfl) (fun _ => rfl))
              rw [hxf] at x4
              clear hxf
              obtain ⟨xi, hxe⟩ : ∃ xi, x.id = xi := ⟨_, rfl⟩
              obtain ⟨fb, hfb⟩ : ∃ fb, x.fin = fb := ⟨_, rfl⟩
              first
                | rw [hfb] at x4
                | skip
              have hkW : W2.cell? ⟨q, 1, none⟩ = some (.slice (some ⟨gn, 0, none⟩) nl vc) ∧ W2.cell? ⟨gn, k * 5, none⟩ = some (.int .i64 x.id) := ⟨HNW.out.2.2.1.cell HC1.out, by
                obtain ⟨gn', e', -, -, -, y0, -⟩ := HRF.out.at2 hx
                injection e' with e'
                injection e' with e'
                subst e'
                exact HNW.out.2.2.1.cell y0⟩
              rw [hxe] at x0 hlk hlkd hp hkW
              have HXE := hide hxe
              clear hsb hn hg hro hfi hx hst hput hnw hxi hs2 c2 hf hlt hk hxe hfb
              go_wp2_with fail
              go_big_region
              clear x0 hlk hlkd c1 hkW
              go_wp2
              go_roundw
              case rel => exact ⟨k + 1, n + 1, _, HK.out, rfl, HNW.out⟩
              case measure => have := HK.out; simp [Go.RowKit.intOf]; omega
            | false =>
              obtain ⟨W2, hp, hs2, c2⟩ := hput false
              have HNW := hide (hnw false W2 hs2 c2 (fun h => by rw [hf] at h; cases h) (fun h => by rw [hxf] at h; cases h))
              rw [hxf] at x4
              clear hxf
              obtain ⟨xi, hxe⟩ : ∃ xi, x.id = xi := ⟨_, rfl⟩
              obtain ⟨fb, hfb⟩ : ∃ fb, x.fin = fb := ⟨_, rfl⟩
              first
                | rw [hfb] at x4
                | skip
              have hkW : W2.cell? ⟨q, 1, none⟩ = some (.slice (some ⟨gn, 0, none⟩) nl vc) ∧ W2.cell? ⟨gn, k * 5, none⟩ = some (.int .i64 x.id) := ⟨HNW.out.2.2.1.cell HC1.out, by
                obtain ⟨gn', e', -, -, -, y0, -⟩ := HRF.out.at2 hx
                injection e' with e'
                injection e' with e'
                subst e'
                exact HNW.out.2.2.1.cell y0⟩
              rw [hxe] at x0 hlk hlkd hp hkW
              have HXE := hide hxe
              clear hsb hn hg hro hfi hx hst hput hnw hxi hs2 c2 hf hlt hk hxe hfb
              go_wp2_with fail
              go_big_region
              clear x0 hlk hlkd c1 hkW
              go_wp2
              go_roundw
              case rel => exact ⟨k + 1, n + 1, _, HK.out, rfl, HNW.out⟩
              case measure => have := HK.out; simp [Go.RowKit.intOf]; omega
    · have q2 : decide ((k : Int) < len1) = true := decide_eq_true (by omega)
      have hw : IntKind.i64.wrap ((k : Int) + 1) = ((k + 1 : Nat) : Int) := (IntWalk.i64_in _ (by omega)).trans (by omega)
      obtain ⟨xa, hxa, cz, hiz⟩ := HST.out.row.at_ hlt
      replace cz := hg.cell cz
      obtain ⟨W2, hput, hsb2, c2⟩ := hsb.put hiz (by unfold maxLen; omega) true
      have HNW := hide (⟨hsb2, by omega, hg.step c2 fun i hi e => by omega, fun j hj => by
        rcases Nat.eq_or_lt_of_le (Nat.le_of_lt_succ hj) with rfl | h3
        · exact if_pos rfl
        · show (if _ then true else f _) = true
          split
          · rfl
          · exact hro j h3⟩ : Sb W2 w4.heap.size (n + 1) (fun y => if y = zs.getD k 0 then true else f y) ∧ n + 1 ≤ k + 1 ∧ Grow w4 W2 ∧ (∀ j, j < k + 1 → (fun y => if y = zs.getD k 0 then true else f y) (zs.getD j 0) = true))
      have HK := hide hlt
      obtain ⟨t, ht⟩ : ∃ t, zs.getD k 0 = t := ⟨_, rfl⟩
      rw [ht] at cz hput
      clear hsb hsb2 c2 hg hn hro hlt hk hiz ht
      subst hxa
      go_wp2
      go_roundw
      case rel => exact ⟨k + 1, n + 1, _, HK.out, rfl, HNW.out⟩
      case measure => have := HK.out; simp [Go.RowKit.intOf]; omega
theorem walk (u : Wo) (cs : List Cl) (ns : List Int) (ts : List Tr) (a1 : Option Addr) (len1 cap1 : Nat) (zs : List Int) (w : World) (h0 : IsWo w u cs ns ts) (h1 : IsRow .i64 w a1 len1 cap1 zs) :
    Calls Try.prog 4 #[Wo.v u, .slice a1 len1 cap1] w fun e w' => e = .returned (.bool true) ∧ Below w.heap.size w w' := by
  by_cases hg : good u cs
  · by_cases hl : 40 < len1
    · exact walk_no h0 h1 (.inr ⟨hg, hl⟩)
    · exact walk_main h0 h1 hg (by omega)
  · exact walk_no h0 h1 (.inl hg)
end
theorem own : ownKnob Try.prog.godebug = none := by kernel_rfl
theorem laidOut : laidOutB Try.prog = true := by kernel_rfl

set_option maxRecDepth 100000 in
theorem lifted (os : Os) (started : os.Started) (H : Type) (enc : TypeId × Value → H) :
    ReturnsInHanded {} Try.checked os 4 .any (Rows.strengthApartSpec.pre6 enc Try.prog Try.f4 Rows.strengthApartRow.domain false) (Rows.strengthApartSpec.post enc Try.prog Try.f4 false true false false) := by
  refine returnsInHanded_of_change (C := Try.checked) own started (by kernel_rfl) Try.func4
    (ChangeSpec.witness6 (enc := enc) (C := Try.checked) false ⟨#[], #[.agg #[.slice none 0 0, .slice none 0 0, .slice none 0 0], .slice none 0 0], []⟩ 8 (by kernel_rfl) (by kernel_rfl) (by kernel_rfl) (by kernel_rfl)) ?_
  intro W base args ds gs before hval0 hW hcnd _
  have hval : ∀ (j : Nat) t v, Try.f4.params[j]? = some t → args[j]? = some v → Value.okWide Try.prog W .any base t v := hval0
  have hW' := hW
  obtain ⟨p, q, hA0, hV, rfl, hfz, hnd⟩ := hW
  have hA : DataW.TrodAll enc Try.prog W 0 (fun _ => true) true Try.f4.params.toList args.toList ds p := hA0
  rw [Try.params4] at hA hval
  obtain ⟨v0, vs0, d0, ds0, p0, q0, hargs, rfl, rfl, h0, r0⟩ := trodAll_cons hA
  obtain ⟨v1, vs1, d1, ds1, p1, q1, rfl, rfl, rfl, h1, r1⟩ := trodAll_cons r0
  obtain ⟨rfl, rfl, rfl⟩ := trodAll_nil r1
  obtain rfl : args = #[v0, v1] := by cases args; simp_all
  obtain ⟨rfl, rfl⟩ := trodVars_none hV
  have k0 := h0
  have lt0 : ∀ x ∈ p0, x.block < W.heap.size := by obtain ⟨m, hm⟩ := k0; exact DataW.trod_lt m _ _ _ hm
  obtain ⟨u0, cs0, ns0, ts0, rfl, w0⟩ := open_world (hval 0 26 v0 rfl rfl) h0
  obtain ⟨a1, len1, cap1, rfl⟩ := okWide_slice Try.underlying27 (hval 1 27 v1 rfl rfl)
  have k1 := h1
  have lt1 : ∀ x ∈ p1, x.block < W.heap.size := by obtain ⟨m, hm⟩ := k1; exact DataW.trod_lt m _ _ _ hm
  obtain ⟨z1, w1⟩ : ∃ zs, IsRow .i64 W a1 len1 cap1 zs := open_row Try.underlying27 Try.underlying3 (by kernel_rfl) h1
  clear hA0 hval0
  refine (walk u0 cs0 ns0 ts0 a1 len1 cap1 z1 W w0 w1).mono fun e W' ⟨he, bel⟩ => ?_
  subst he
  exact ⟨_, rfl, _, _, _, [], _, [], hW', trodAll_mk1 (shut_bool Try.underlying4 _), (trodAll_cons_mk (Below.trod laidOut (by kernel_rfl) (of_decide_eq_true (by kernel_rfl)) k0 bel lt0) (trodAll_cons_mk (Below.trod laidOut (by kernel_rfl) (of_decide_eq_true (by kernel_rfl)) k1 bel lt1) trodAll_mk0)), rfl, bel.frame _, fun h => by cases h⟩

theorem over : Rows.strengthApartRow.holds Try.pinned (OpenSpec.ofChange Rows.strengthApartSpec) :=
  OpenClaim.holds_of_wide 4 Try.f4 rfl rfl rfl rfl rfl rfl rfl ⟨rfl, rfl, rfl, rfl, rfl⟩ rfl rfl rfl rfl rfl (by kernel_rfl) Try.func4 (by kernel_rfl)
    (of_decide_eq_true (by kernel_rfl)) (by unfold Func.isWrapper; first | (rw [if_pos (by decide +kernel)]; kernel_rfl) | (rw [if_neg (by decide +kernel)]; exact ⟨rfl, rfl⟩))
    (fun os started H enc _ => lifted os started H enc)

/-- The statement. -/
theorem proved : Rows.StrengthApartSaid := over
#print axioms proved
end Go.Proofs.Ytjofdamobnemcaa.strengthApart

