/- Reference processing: what is cleared; the state as it begins. Conditions: fewer than 1000000 nodes. -/
import Derived.Test.YtjfpjnhlnoiekaaGreatL13E
import Derived.Deep.RegionHeld3
namespace Go.Proofs.YtjfpjnhlnoiekaaGreat.L13
open Go.ChangeShapes Go.WideShapes Go.ChangeAt Go.RowKit Go.Maps
open Go.Proofs.YtjfpjnhlnoiekaaGreat.L9 (Nd nd Srt In64 GS Mn pt ptr hldX aimX nd_some nd_none nd_mem own_rd own_cast wpList_app hasB hasB_step ids_gs node_yes aim_gs ndV)
open Go.Proofs.YtjfpjnhlnoiekaaGreat.L10 (Rc IsRc outs clL fins fnB srcC clL_srt put OL ol_nil app_more take_step clL_step clL_le reach_any)
open Go.Proofs.YtjfpjnhlnoiekaaGreat.L5 (Cl clAt isRf)
set_option linter.unusedVariables false
section
variable {w W W' : World} {s p m z b : Nat} {f : Int → Option Nat} {ia : Option Addr} {ic : Nat} {cs : List Cl} {L : List Nd} {q c : Int → Bool} {wv : Value} {wq : Int → Bool} {S T : Nat → Prop} {x : Nd} {i : Int}
/-- What stands between two that are cleared. -/
structure Cn (w W wr : World) (s p m : Nat) (f : Int → Option Nat) (ia : Option Addr) (ic : Nat) (cs : List Cl) (L : List Nd) (q c : Int → Bool) (wv : Value) (wq : Int → Bool) (R : List Int) (ra : Option Addr) (rc : Nat) (b2 k : Nat) : Prop where
  sn : Sn w wr s p m f ia ic cs L q (un c (hasB (R.take k))) wv wq
  ch : Chg (Tch s f wv) W wr
  rr : OL wr W.heap.size (.slice ra R.length rc) R
  ap : ∀ k, wv.ownBlock = some k → (Value.slice ra R.length rc).ownBlock ≠ some k
  bx : Blk wr b2 65 [ptr s]
/-- What stands behind clear. -/
def Cld (w W : World) (s p m : Nat) (f : Int → Option Nat) (ia : Option Addr) (ic : Nat) (cs : List Cl) (L : List Nd) (q c t : Int → Bool) (wv : Value) (wq : Int → Bool) (e : Ending) (W' : World) : Prop :=
  ∃ ra rc, e = .returned (.slice ra (clL L t).length rc) ∧ Sn w W' s p m f ia ic cs L q (un c t) wv wq ∧ Chg (Tch s f wv) W W' ∧ OL W' W.heap.size (.slice ra (clL L t).length rc) (clL L t) ∧ ∀ k, wv.ownBlock = some k → (Value.slice ra (clL L t).length rc).ownBlock ≠ some k
theorem toC_nd (hi : toC cs L q c [] i = true) : False := by simp [toC] at hi
set_option maxRecDepth 100000 in
set_option maxHeartbeats 2000000 in
theorem clear_any (h : Sn w W s p m f ia ic cs L q c wv wq) (hg : GS w z S p cs L) (hl : L.length < 1000000) {a : Option Addr} {n cc : Nat} {ks : List Int} (hr : L1.Rd W a n ks) (hn : n ≤ 1000) (hqn : ∀ i, q i = true → nd L i ≠ none) :
    Calls Tryz.prog 27 #[ptr s, .slice a n cc] W (Cld w W s p m f ia ic cs L q c (toC cs L q c ks) wv wq) := by
  have hok : ∀ x ∈ L, x.Ok cs := fun x hx => hg.ok hx
  have HSR := hide hg.srt
  have b2 := boxes2 W 65 [ptr s] 27 [.slice a n cc]
  obtain ⟨h2, h3, g2, -, -, -⟩ := b2
  have HMEM := hide (show ∀ i ∈ clL L (toC cs L q c ks), ∃ x ∈ L, x.id = i from fun i hi => by
    unfold clL at hi
    obtain ⟨x, hx, rfl⟩ := List.mem_map.1 hi
    exact ⟨x, (List.mem_filter.1 hx).1, rfl⟩)
  have HME := hide (show ∀ i, hasB (clL L (toC cs L q c ks)) i = toC cs L q c ks i from fun i => by
    rw [Bool.eq_iff_iff, L10.hasB_iff, clL_iff hg.srt]
    refine ⟨fun h => h.2, fun h => ⟨hqn i ?_, h⟩⟩
    unfold toC los at h
    exact (Bool.and_eq_true_iff.1 (Bool.and_eq_true_iff.1 h).1).1)
  have HRL := hide (show (clL L (toC cs L q c ks)).length < 1000000 by have := clL_le L (toC cs L q c ks); omega)
  have HOK := hide hok
  have HWH := hide (which_by (fid := 55) (lb := #[ptr W.heap.size, ptr (W.heap.size + 1)]) (P := toC cs L q c ks) (enters_of Tryz.func55 (by kernel_rfl) rfl) (h.grow g2) hok hl
    fun W' x b g hx hb => clear1_any ((h.grow g2).grow g) hok hx hb (g.cell (h2.cell 0)) (g.cell (h3.cell 0)) (L9.L1.Rd.chg hr (g2.trans g) fun _ _ => id) hn)
  have HH := hide h
  have HB2 := hide h2
  have HG2 := hide g2
  have k2 := h2.cell 0
  have hmf : ∀ (fn : Fn) (first cap : Array Value) (w : World), (Instr.makeFunc fn first cap).run Tryz.prog w = .ok (.func fn first cap) w := fun _ _ _ _ => rfl
  clear h hg hl hr hn hqn hok h2 h3 g2
  generalize toC cs L q c ks = t at *
  obtain ⟨R, hR⟩ : ∃ R, clL L t = R := ⟨_, rfl⟩
  have HRR := hide hR
  rw [hR] at HMEM HME HRL HWH
  clear hR
  obtain ⟨M, hM⟩ : ∃ M, R.length = M := ⟨_, rfl⟩
  have HM := hide hM
  rw [hM] at HWH HRL
  clear hM
  go_enter Tryz.func27, Tryz.ntmps27
  go_wp2_with fail
  refine HWH.out.mono ?_
  rintro e w1 ⟨ra, rc, rfl, ho, g1⟩
  have hcn : Cn w W w1 s p m f ia ic cs L q c wv wq R ra rc W.heap.size 0 := by
    have e1 : un c (hasB (R.take 0)) = c := by funext i; simp [un, hasB]
    have ho2 : OL w1 W.heap.size (.slice ra R.length rc) R := by rw [HM.out]; exact ho.lower HG2.out.size
    exact ⟨by rw [e1]; exact HH.out.grow (HG2.out.trans g1), (HG2.out.trans g1).mono fun _ _ h => h.elim, ho2, HH.out.new_row (Nat.le_refl _) ho2, HB2.out.chg g1 id⟩
  have HCN := hide hcn
  have HWB := hide (show W.heap.size ≤ W.heap.size from Nat.le_refl _)
  clear ho g1 hcn HWH hmf k2 HB2 HG2
  obtain ⟨b2, hb2⟩ : ∃ b2, W.heap.size = b2 := ⟨_, rfl⟩
  rw [hb2] at HCN HWB
  have HB := hide hb2
  rw [hb2]
  clear hb2
  go_wp2_with fail
  go_loopw [13] (fun u wr => ∃ k : Nat, k ≤ M ∧ u = .int .i64 k ∧ Cn w W wr s p m f ia ic cs L q c wv wq R ra rc b2 k) (fun u _ => M - (Go.RowKit.intOf u).toNat)
  case atStart => exact ⟨0, Nat.zero_le _, rfl, HCN.out⟩
  case round =>
    clear HCN
    obtain ⟨k, hk, rfl, hcn⟩ := hrel
    rcases Nat.eq_or_lt_of_le hk with hke | hlt
    · have hke2 := hke.symm
      subst hke2
      clear hke
      have q1 : decide ((M : Int) < M) = false := by simp
      have HE := hide hcn
      clear hcn hk
      go_wp2
      go_ret
      have e0 : R.take M = R := by rw [← HM.out, List.take_length]
      have e1 : un c (hasB (R.take M)) = un c t := by rw [e0]; funext i; unfold un; rw [HME.out]
      have hs := HE.out.sn
      rw [e1] at hs
      have hrr := HE.out.rr
      have hap := HE.out.ap
      rw [HM.out] at hrr hap
      refine ⟨ra, rc, by rw [HRR.out, HM.out]; rfl, hs, HE.out.ch, ?_, ?_⟩
      · rw [HRR.out, HM.out]; exact hrr
      · rw [HRR.out, HM.out]; exact hap
    · have q1 : decide ((k : Int) < M) = true := decide_eq_true (by omega)
      have q2 : k < M := hlt
      have hkl : k < R.length := by rw [HM.out]; exact hlt
      have hw : IntKind.i64.wrap ((k : Int) + 1) = ((k + 1 : Nat) : Int) := (IntWalk.i64_in _ (by have := HRL.out; omega)).trans (by omega)
      obtain ⟨x, hx, hxi⟩ := HMEM.out _ (L10.getD_mem hkl)
      obtain ⟨g, cap, e, -⟩ := own_form hcn.rr (by omega)
      injection e with e1 e2 e3
      clear e2 e3
      subst e1
      have k0 := hcn.rr.cell hkl
      have k2 := hcn.bx.cell 0
      have c2 := hcn.sn.c2
      obtain ⟨b, hb, hP⟩ := hcn.sn.nds x hx
      have hlook := pn_at hcn.sn.map (HOK.out x hx).id2 hb
      obtain ⟨-, -, -, -, x8, -, xf⟩ := hP.cells
      have hL := hcn.sn.clear HSR.out hx hb
      have HUN := un_no (q := c) hkl
      rw [← hxi] at k0 HUN
      rw [← HUN] at hL
      have hch : Chg (Tch s f wv) wr (wr.setCell ⟨b, 8, none⟩ (.bool true)) := Sn.set_chg hb 8 _
      have hrr := hcn.sn.keep hch hcn.rr hcn.ap
      have hbx : Blk (wr.setCell ⟨b, 8, none⟩ (.bool true)) b2 65 [ptr s] := by
        obtain ⟨ra', rc', da', dc', hB⟩ := hP
        exact hcn.bx.chg ((Chg.refl (· = b) wr).set1 8 (.bool true)) (hcn.bx.ne_ hB (by decide))
      have HN := hide (⟨hL, hcn.ch.trans hch, hrr, hcn.ap, hbx⟩ : Cn w W (wr.setCell ⟨b, 8, none⟩ (.bool true)) s p m f ia ic cs L q c wv wq R (some ⟨g, 0, none⟩) rc b2 (k + 1))
      have HLT := hide hlt
      obtain ⟨i, hi⟩ : ∃ i, x.id = i := ⟨_, rfl⟩
      rw [hi] at k0 hlook
      clear hcn hx hb hP hkl hlt hk hi hxi hL HUN hch hrr hbx
      go_wp2
      go_roundw
      case rel => exact ⟨k + 1, HLT.out, rfl, HN.out⟩
      case measure => have := HLT.out; simp [Go.RowKit.intOf]; omega
theorem row_at (h : W.ownsRow b 3 1 (.slice ia L.length ic) L.length (ints (L.map Nd.id))) {k : Nat} (hk : L[k]? = some x) : ∃ g, ia = some ⟨g, 0, none⟩ ∧ W.cell? ⟨g, k, none⟩ = some (.int .i64 x.id) := by
  have hkl : k < L.length := (List.getElem?_eq_some_iff.1 hk).1
  obtain ⟨a, e, hr⟩ := (own_rd h).2 (by omega)
  obtain ⟨g, cap, e2, _⟩ := own_form h (by omega)
  injection e2 with e2
  subst e2
  injection e with e
  subst e
  refine ⟨g, rfl, ?_⟩
  have := hr k hkl
  rw [addr_add, Nat.zero_add] at this
  rw [this]
  simp [hk]
/-- What look has laid so far: the first k nodes. -/
structure Lk (w W : World) (s p m : Nat) (f : Int → Option Nat) (ia : Option Addr) (ic : Nat) (cs : List Cl) (L : List Nd) (k : Nat) : Prop where
  gw : Grow w W
  blk : Blk W s 113 [ptr p, .slice ia L.length ic, .map (some m), .slice none 0 0]
  ids : W.ownsRow w.heap.size 3 1 (.slice ia L.length ic) L.length (ints (L.map Nd.id))
  map : Mn W m f
  nds : ∀ x ∈ L.take k, ∃ b, f x.id = some b ∧ Pnd W b cs L (fun _ => false) (fun _ => false) x
  no : ∀ i, f i ≠ none ↔ i ∈ (L.take k).map Nd.id
  fb : ∀ i b, f i = some b → w.heap.size ≤ b ∧ b < W.heap.size
  ap : ∀ i j b, f i = some b → f j = some b → i = j
  sg : w.heap.size ≤ s
  mg : w.heap.size ≤ m
theorem Lk.grow {k : Nat} (h : Lk w W s p m f ia ic cs L k) (g : Grow W W') : Lk w W' s p m f ia ic cs L k :=
  ⟨h.gw.trans g, h.blk.chg g id, own_grow h.ids g, h.map.chg g id, fun x hx => by
    obtain ⟨b, h1, h2⟩ := h.nds x hx
    exact ⟨b, h1, h2.chg g id⟩, h.no, fun i b hb => ⟨(h.fb i b hb).1, Nat.lt_of_lt_of_le (h.fb i b hb).2 g.size⟩, h.ap, h.sg, h.mg⟩
theorem mn_ne {g : Nat} {t : TypeId} {cs2 : List Value} (h : Mn W m f) (hb : Blk W g t cs2) : g ≠ m := fun e => by
  obtain ⟨D, ⟨es, clock, e1, r⟩, _⟩ := h
  unfold Blk at hb
  rw [e, e1] at hb
  cases hb
/-- A node more. -/
theorem Lk.put {k : Nat} (h : Lk w W s p m f ia ic cs L k) (hs : Srt L) (hl : L.length < 1000000) (hok : ∀ x ∈ L, x.Ok cs) (hk : L[k]? = some x) (g : Grow W W') {b : Nat} (hb : Pnd W' b cs L (fun _ => false) (fun _ => false) x) (hbn : W.heap.size ≤ b) :
    ∃ W2, (Instr.mapUpdate 111 (.map (some m)) (.int .i64 x.id) (ptr b)).run Tryz.prog W' = .ok () W2 ∧ Lk w W2 s p m (fun y => if y = x.id then some b else f y) ia ic cs L (k + 1) ∧ Chg (· = m) W' W2 := by
  have hG := h.grow g
  have hxm := List.mem_of_getElem? hk
  have htk := take_step hk
  have hnt : x.id ∉ (L.take k).map Nd.id := by
    intro hm
    obtain ⟨y, hy, he⟩ := List.mem_map.1 hm
    obtain ⟨j, hj, rfl⟩ := List.getElem_of_mem hy
    have hjk : j < k := by simp at hj; omega
    rw [List.getElem_take] at he
    have := L9.srt_lt hs (List.getElem?_eq_getElem (by simp at hj; omega)) hk hjk
    omega
  have hnd : ((L.take k).map Nd.id).Nodup := by
    have h1 := L9.srt_nodup hs
    rw [← List.take_append_drop k L, List.map_append] at h1
    exact (List.nodup_append.1 h1).1
  obtain ⟨W2, hrun, hM, hc⟩ := pn_put hG.map hG.no hnd (by rw [List.length_map, List.length_take]; unfold maxLen; omega) (hok x hxm).id2 b
  obtain ⟨ra, rc, da, dc, hB⟩ := hb
  have nm : ∀ {g2 : Nat} {t : TypeId} {cs2 : List Value}, Blk W' g2 t cs2 → g2 ≠ m := fun hb2 e => by
    obtain ⟨D, ⟨es, clock, e1, r⟩, _⟩ := hG.map
    unfold Blk at hb2
    rw [e, e1] at hb2
    cases hb2
  have hbl := hB.lt
  refine ⟨W2, hrun, ⟨hG.gw.step hc fun j hj e => by have := h.mg; omega, hG.blk.chg hc (nm hG.blk), own_chg hG.ids hc fun j hj e => ?_, hM, fun y hy => ?_, fun i => ?_, fun i b' hb' => ?_, fun i j b' hi hj => ?_, h.sg, h.mg⟩, hc⟩
  · obtain ⟨D, ⟨es, clock, e1, r⟩, _⟩ := hG.map
    have hids : OL W' w.heap.size (.slice ia L.length ic) (L.map Nd.id) := own_cast hG.ids (by simp)
    exact hids.ne_map e1 (by rw [← e]; exact hj)
  · rw [htk] at hy
    rcases List.mem_append.1 hy with hy | hy
    · obtain ⟨b', h1, h2⟩ := hG.nds y hy
      have hne : y.id ≠ x.id := fun e => hnt (by rw [← e]; exact List.mem_map_of_mem hy)
      obtain ⟨ra', rc', da', dc', hB'⟩ := h2
      exact ⟨b', by simp only [if_neg hne]; exact h1, ra', rc', da', dc', hB'.chg hc (nm hB')⟩
    · obtain rfl := List.mem_singleton.1 hy
      exact ⟨b, by simp, ra, rc, da, dc, hB.chg hc (nm hB)⟩
  · rw [htk, List.map_append, List.mem_append]
    by_cases e : i = x.id
    · simp [e]
    · simp only [if_neg e]
      rw [h.no i]
      simp [e]
  · by_cases e : i = x.id
    · simp only [if_pos e] at hb'
      injection hb' with hb'
      subst hb'
      exact ⟨Nat.le_trans h.gw.size hbn, Nat.lt_of_lt_of_le hbl hc.size⟩
    · simp only [if_neg e] at hb'
      have := hG.fb i b' hb'
      exact ⟨this.1, Nat.lt_of_lt_of_le this.2 hc.size⟩
  · by_cases e : i = x.id
    · by_cases e' : j = x.id
      · rw [e, e']
      · simp only [if_pos e] at hi
        simp only [if_neg e'] at hj
        have hi2 : b = b' := Option.some.inj hi
        have h5 := (h.fb j b' hj).2
        exact absurd (hi2 ▸ h5) (Nat.not_lt.2 hbn)
    · by_cases e' : j = x.id
      · simp only [if_neg e] at hi
        simp only [if_pos e'] at hj
        have hj2 : b = b' := Option.some.inj hj
        have h5 := (h.fb i b' hi).2
        exact absurd (hj2 ▸ h5) (Nat.not_lt.2 hbn)
      · simp only [if_neg e] at hi
        simp only [if_neg e'] at hj
        exact h.ap i j b' hi hj
theorem Lk.done (h : Lk w W s p m f ia ic cs L L.length) : Sn w W s p m f ia ic cs L (fun _ => false) (fun _ => false) (.slice none 0 0) (fun _ => false) := by
  have hn := h.nds
  have ho := h.no
  rw [List.take_length] at hn ho
  have hc : clL L (fun _ => false) = [] := by simp [clL]
  refine ⟨h.gw, h.blk, h.ids, h.map, hn, fun i hi => ?_, fun i b hb => (h.fb i b hb).1, h.ap, by rw [hc]; exact ql_nil _ _, fun k hk => (by cases hk), fun i hi => (by cases hi), h.sg, h.mg⟩
  cases hf : f i with
  | none => rfl
  | some b =>
    have := (ho i).1 (by rw [hf]; simp)
    obtain ⟨x, hx, rfl⟩ := List.mem_map.1 this
    exact absurd rfl (nd_none hi x hx)
/-- What stands behind look. -/
def Lkd (w : World) (p : Nat) (cs : List Cl) (L : List Nd) (e : Ending) (W : World) : Prop :=
  ∃ s m f ia ic, e = .returned (ptr s) ∧ Sn w W s p m f ia ic cs L (fun _ => false) (fun _ => false) (.slice none 0 0) (fun _ => false)
set_option maxRecDepth 100000 in
set_option maxHeartbeats 2000000 in
theorem look_any (hg : GS w z S p cs L) (hl : L.length < 1000000) :
    Calls Tryz.prog 24 #[ptr p] w (Lkd w p cs L) := by
  have hmm := @run_makeMap Tryz.prog
  have HID := hide (ids_gs hg hl)
  have HG := hide hg
  have HSR := hide hg.srt
  have HOK := hide (show ∀ x ∈ L, x.Ok cs from fun x hx => hg.ok hx)
  have HL := hide hl
  obtain ⟨N, hN⟩ : ∃ N, L.length = N := ⟨_, rfl⟩
  rw [hN] at HID
  have HNN := hide hN
  clear hg hl hN
  go_enter Tryz.func24, Tryz.ntmps24
  go_wp2_with fail
  refine HID.out.mono ?_
  rintro e w1 ⟨ia, ic, rfl, ho, g1⟩
  have hmd : (w1.alloc (.map #[] 0)).heap.size = w1.heap.size + 1 := by simp
  have hlk : Lk w ((w1.alloc (.map #[] 0)).alloc (.cells [ptr p, .slice ia N ic, .map (some w1.heap.size), .slice none 0 0].toArray 113)) (w1.heap.size + 1) p w1.heap.size (fun _ => none) ia ic cs L 0 := by
    have hgg : Grow w1 ((w1.alloc (.map #[] 0)).alloc (.cells [ptr p, .slice ia N ic, .map (some w1.heap.size), .slice none 0 0].toArray 113)) := (Grow.box _ _).alloc _
    have hb := Blk.new (w1.alloc (.map #[] 0)) 113 [ptr p, .slice ia N ic, .map (some w1.heap.size), .slice none 0 0]
    rw [hmd] at hb
    have hsz := g1.size
    refine ⟨g1.trans hgg, by rw [HNN.out]; exact hb, by rw [HNN.out]; exact own_grow ho hgg, (Mn.made w1).chg (Grow.box _ _) id, fun x hx => by simp at hx, fun i => by simp, fun i b h => (by cases h), fun i j b h => (by cases h), by omega, hsz⟩
  have HLK := hide hlk
  clear ho hlk hmd
  go_wp2_with fail
  generalize (w1.alloc (.map #[] 0)).alloc (.cells #[ptr p, .slice ia N ic, .map (some w1.heap.size), .slice none 0 0] 113) = w2 at *
  generalize w1.heap.size + 1 = s at *
  generalize w1.heap.size = m at *
  clear hmm
  go_loopw [21] (fun u wr => ∃ (k : Nat) (f : Int → Option Nat), k ≤ N ∧ u = .int .i64 k ∧ Lk w wr s p m f ia ic cs L k) (fun u _ => N - (Go.RowKit.intOf u).toNat)
  case atStart => exact ⟨0, _, Nat.zero_le _, rfl, HLK.out⟩
  case round =>
    clear HLK
    obtain ⟨k, f, hk, rfl, hlk⟩ := hrel
    rcases Nat.eq_or_lt_of_le hk with hke | hlt
    · have hke2 := hke.symm
      subst hke2
      clear hke
      have q1 : decide ((N : Int) < N) = false := by simp
      have hlk2 : Lk w wr s p m f ia ic cs L L.length := by rw [HNN.out]; exact hlk
      have HE := hide hlk2.done
      clear hlk hlk2 hk
      go_wp2
      go_ret
      exact ⟨s, m, f, ia, ic, rfl, HE.out⟩
    · have q1 : decide ((k : Int) < N) = true := decide_eq_true (by omega)
      have q2 : k < N := hlt
      obtain ⟨x, hx⟩ : ∃ x, L[k]? = some x := ⟨_, List.getElem?_eq_getElem (by rw [HNN.out]; exact hlt)⟩
      have hw : IntKind.i64.wrap ((k : Int) + 1) = ((k + 1 : Nat) : Int) := (IntWalk.i64_in _ (by have := HL.out; have := HNN.out; omega)).trans (by omega)
      obtain ⟨g, rfl, k0⟩ := row_at hlk.ids hx
      have hxm := List.mem_of_getElem? hx
      have c2 := hlk.blk.cell 2
      have HLQ := hide hlk
      have HX := hide hx
      have HXM := hide hxm
      have HII := hide (HOK.out x hxm).id2
      have HND := hide (fun (W : World) (gg : Grow wr W) => node_yes ((HG.out.grow hlk.gw).grow gg) (HOK.out x hxm).id2 (nd_mem HSR.out hxm))
      have HAI := hide (fun (W : World) (gg : Grow wr W) => aim_gs ((HG.out.grow hlk.gw).grow gg) (HOK.out x hxm).id2)
      have HLT := hide hlt
      obtain ⟨i, hi⟩ : ∃ i, x.id = i := ⟨_, rfl⟩
      have HI := hide hi
      obtain ⟨t, ht⟩ : ∃ t, aimX cs L i = t := ⟨_, rfl⟩
      have HT := hide ht
      rw [hi] at k0 HAI HND
      rw [ht] at HAI
      obtain ⟨t1, t2⟩ := t
      clear hlk hx hxm hlt hk hi ht
      go_wp2_with fail
      refine (HND.out _ (Chg.refl _ _)).mono ?_
      rintro e w3 ⟨ar, cr, ad, cd, rfl, -, g3⟩
      have hnb := Blk.new w3 38 [.int .i64 x.id, .int .i64 x.c, .slice ar x.refs.length cr, .slice ad x.data.length cd, .bool x.fin]
      have g3b := g3.trans (Grow.box w3 (.cells [.int .i64 x.id, .int .i64 x.c, .slice ar x.refs.length cr, .slice ad x.data.length cd, .bool x.fin].toArray 38))
      replace c2 := Grow.cell g3b c2
      have HA3 := hide (HAI.out _ g3b)
      clear k0 g3 HND HAI
      obtain ⟨xid, hxid⟩ : ∃ xid, x.id = xid := ⟨_, rfl⟩
      obtain ⟨xc, hxc⟩ : ∃ xc, x.c = xc := ⟨_, rfl⟩
      obtain ⟨xr, hxr⟩ : ∃ xr, x.refs.length = xr := ⟨_, rfl⟩
      obtain ⟨xd, hxd⟩ : ∃ xd, x.data.length = xd := ⟨_, rfl⟩
      obtain ⟨xf, hxf⟩ : ∃ xf, x.fin = xf := ⟨_, rfl⟩
      have HXX := hide (And.intro hxid (And.intro hxc (And.intro hxr (And.intro hxd hxf))))
      unfold L9.ndV
      rw [hxid, hxc, hxr, hxd, hxf] at hnb g3b c2 HA3 ⊢
      clear hxid hxc hxr hxd hxf
      go_wp2_with fail
      generalize w3.alloc (.cells #[.int .i64 xid, .int .i64 xc, .slice ar xr cr, .slice ad xd cd, .bool xf] 38) = w4 at *
      generalize w3.heap.size = nb at *
      refine HA3.out.mono ?_
      rintro e w5 ⟨rfl, g5⟩
      dsimp only
      replace c2 := Grow.cell g5 c2
      have hn5 := hnb.chg g5 id
      have n0 := hn5.cell 0
      have n1 := hn5.cell 1
      have n2 := hn5.cell 2
      have n3 := hn5.cell 3
      have n4 := hn5.cell 4
      have g6 := g3b.trans g5
      have hB := Blk.new w5 73 [.int .i64 xid, .int .i64 xc, .slice ar xr cr, .slice ad xd cd, .bool xf, .int .i64 t1, .int .i64 t2, .bool false, .bool false]
      have hP : Pnd (w5.alloc (.cells [.int .i64 xid, .int .i64 xc, .slice ar xr cr, .slice ad xd cd, .bool xf, .int .i64 t1, .int .i64 t2, .bool false, .bool false].toArray 73)).drew w5.heap.size cs L (fun _ => false) (fun _ => false) x := by
        refine ⟨ar, cr, ad, cd, ?_⟩
        unfold pnC
        obtain ⟨e1, e2, e3, e4, e5⟩ := HXX.out
        rw [HI.out, HT.out, ← HI.out, e1, e2, e3, e4, e5]
        exact hB.drew
      obtain ⟨W2, hrun, hlk2, hc2⟩ := HLQ.out.put HSR.out HL.out HOK.out HX.out ((g6.alloc (.cells [.int .i64 xid, .int .i64 xc, .slice ar xr cr, .slice ad xd cd, .bool xf, .int .i64 t1, .int .i64 t2, .bool false, .bool false].toArray 73)).drew) hP g6.size
      rw [HI.out] at hrun
      have hn6 := ((hn5.alloc (.cells [.int .i64 xid, .int .i64 xc, .slice ar xr cr, .slice ad xd cd, .bool xf, .int .i64 t1, .int .i64 t2, .bool false, .bool false].toArray 73)).drew).chg hc2 (show nb ≠ m from mn_ne (HLQ.out.grow g6).map hn5)
      have hk2 : W2.cell? ⟨s, 2, none⟩ = some (.map (some m)) ∧ W2.cell? ⟨nb, 0, none⟩ = some (.int .i64 xid) ∧ W2.cell? ⟨nb, 1, none⟩ = some (.int .i64 xc) ∧ W2.cell? ⟨nb, 2, none⟩ = some (.slice ar xr cr) ∧ W2.cell? ⟨nb, 3, none⟩ = some (.slice ad xd cd) ∧ W2.cell? ⟨nb, 4, none⟩ = some (.bool xf) := ⟨hlk2.blk.cell 2, hn6.cell 0, hn6.cell 1, hn6.cell 2, hn6.cell 3, hn6.cell 4⟩
      have HNX := hide hlk2
      clear hB hP hlk2 hc2 hn6 hn5 hnb g6 g3b HA3 g5 q1 q2
      go_wp2_with fail
      go_region_held3 (fun W => W.cell? ⟨s, 2, none⟩ = some (.map (some m)) ∧ W.cell? ⟨nb, 0, none⟩ = some (.int .i64 xid) ∧ W.cell? ⟨nb, 1, none⟩ = some (.int .i64 xc) ∧ W.cell? ⟨nb, 2, none⟩ = some (.slice ar xr cr) ∧ W.cell? ⟨nb, 3, none⟩ = some (.slice ad xd cd) ∧ W.cell? ⟨nb, 4, none⟩ = some (.bool xf)) (first | assumption | (refine ⟨Grow.cell ?_ c2, Grow.cell ?_ n0, Grow.cell ?_ n1, Grow.cell ?_ n2, Grow.cell ?_ n3, Grow.cell ?_ n4⟩ <;> (repeat (first | exact Chg.refl _ _ | refine Chg.drew ?_ | refine Chg.alloc ?_ _)))) (fail)
      all_goals go_wp2
      all_goals go_roundw
      case rel => exact ⟨k + 1, _, HLT.out, rfl, HNX.out⟩
      case measure => have := HLT.out; simp [Go.RowKit.intOf]; omega
end
end Go.Proofs.YtjfpjnhlnoiekaaGreat.L13
