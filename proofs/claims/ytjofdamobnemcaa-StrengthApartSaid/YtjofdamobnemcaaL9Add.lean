/- Graphs: Add: what it answers and does, whatever the argument. Conditions: the numbers fit an int; a graph has fewer than 1000000 nodes. -/
import Derived.Deep.RegionHeld3
import Derived.Test.YtjofdamobnemcaaL9Call
namespace Go.Proofs.Ytjofdamobnemcaa.L9
open Go.ChangeShapes Go.WideShapes Go.ChangeAt Go.RowKit Go.Maps
open Go.Proofs.Ytjofdamobnemcaa.L5 (Cl clV rtB Tb clAt shX shR shD woV hoB IsCls newX isRf shape_any words_any of_in clAt_some)
set_option linter.unusedVariables false

def newNd (cs : List Cl) (i c l : Int) : Nd := ⟨i, c, zeros (shR (clAt cs c) l).toNat, zeros (shD (clAt cs c) l).toNat, match clAt cs c with | some k => k.f | none => false⟩
/-- A node more, where its name belongs. -/
def ins (L : List Nd) (x : Nd) : List Nd := L.takeWhile (fun y => decide (y.id < x.id)) ++ x :: L.dropWhile (fun y => decide (y.id < x.id))
def adX (cs : List Cl) (L : List Nd) (i c l : Int) : Int := if shX (clAt cs c) l ≠ 0 then shX (clAt cs c) l else if i < 1 ∨ nd L i ≠ none then 1 else 0
def adL (cs : List Cl) (L : List Nd) (i c l : Int) : List Nd := if adX cs L i c l = 0 then ins L (newNd cs i c l) else L
theorem mem_ins {L : List Nd} {x y : Nd} : y ∈ ins L x ↔ y = x ∨ y ∈ L := by
  unfold ins
  conv => rhs; rw [← List.takeWhile_append_dropWhile (p := fun y : Nd => decide (y.id < x.id)) (l := L)]
  simp only [List.mem_append, List.mem_cons]
  constructor
  · rintro (h | h | h)
    · exact .inr (.inl h)
    · exact .inl h
    · exact .inr (.inr h)
  · rintro (h | h | h)
    · exact .inr (.inl h)
    · exact .inl h
    · exact .inr (.inr h)
theorem ins_cons (a : Nd) (l : List Nd) (x : Nd) : ins (a :: l) x = if a.id < x.id then a :: ins l x else x :: a :: l := by
  unfold ins
  by_cases h : a.id < x.id <;> simp [h]
theorem ins_srt {L : List Nd} {x : Nd} (hs : Srt L) (hn : nd L x.id = none) : Srt (ins L x) := by
  have hne := nd_none hn
  clear hn
  induction L with
  | nil => exact List.pairwise_singleton _ _
  | cons a l ih =>
    obtain ⟨h1, h2⟩ := List.pairwise_cons.1 hs
    have ha := hne a List.mem_cons_self
    rw [ins_cons]
    split
    · rename_i hlt
      refine List.pairwise_cons.2 ⟨fun y hy => ?_, ih h2 fun y hy => hne y (List.mem_cons_of_mem _ hy)⟩
      rcases mem_ins.1 hy with rfl | hy
      · exact hlt
      · exact h1 y hy
    · refine List.pairwise_cons.2 ⟨fun y hy => ?_, hs⟩
      rcases List.mem_cons.1 hy with rfl | hy
      · omega
      · have := h1 y hy; omega
theorem ins_len (L : List Nd) (x : Nd) : (ins L x).length = L.length + 1 := by
  unfold ins
  have := congrArg List.length (List.takeWhile_append_dropWhile (p := fun y : Nd => decide (y.id < x.id)) (l := L))
  simp only [List.length_append, List.length_cons] at this ⊢
  omega
section
variable {w : World} {z p m tb : Nat} {S : Nat → Prop} {f : Int → Option Nat} {ow : Nat → Int} {cs : List Cl} {L : List Nd} {x : Nd} {i c l : Int}
set_option maxRecDepth 100000 in
set_option maxHeartbeats 1000000 in
theorem add_no (h : Gr w z S p m tb f ow cs L) (hi : In64 i) {X : Int} (hX : adX cs L i c l = X) (h0 : X ≠ 0) :
    Calls Try.prog 17 #[ptr p, .int .i64 i, .int .i64 c, .int .i64 l] w fun e w' => e = .returned (.int .i64 X) ∧ Grow w w' := by
  have HG := hide h
  obtain ⟨base, v, ht⟩ := h.tb_
  have HT := hide ht
  have k0 := h.cell0
  clear ht
  obtain ⟨R, hR⟩ : ∃ R, shR (clAt cs c) l = R := ⟨_, rfl⟩
  obtain ⟨D, hD⟩ : ∃ D, shD (clAt cs c) l = D := ⟨_, rfl⟩
  obtain ⟨Y, hY⟩ : ∃ Y, shX (clAt cs c) l = Y := ⟨_, rfl⟩
  have HSH := hide (⟨hR, hD, hY⟩ : shR (clAt cs c) l = R ∧ shD (clAt cs c) l = D ∧ shX (clAt cs c) l = Y)
  unfold adX at hX
  rw [hY] at hX
  clear hR hD hY
  by_cases hY0 : Y ≠ 0
  · rw [if_pos hY0] at hX
    subst hX
    have q1 : (Y != 0) = true := by simpa using hY0
    clear h hY0 h0
    go_enter Try.func17, Try.ntmps17
    go_wp2_with fail
    refine (shape_any HT.out HG.out.cl HG.out.rt l c).mono ?_
    rintro e w1 ⟨rfl, g1⟩
    rw [HSH.out.1, HSH.out.2.1, HSH.out.2.2]
    go_wp2
    go_ret
    exact ⟨rfl, g1⟩
  · rw [if_neg hY0] at hX
    have hY1 : Y = 0 := Classical.not_not.1 hY0
    subst hY1
    by_cases hi1 : i < 1
    · rw [if_pos (.inl hi1)] at hX
      subst hX
      have q1 : decide (i < 1) = true := by simpa using hi1
      clear h hY0 h0 hi1
      go_enter Try.func17, Try.ntmps17
      go_wp2_with fail
      refine (shape_any HT.out HG.out.cl HG.out.rt l c).mono ?_
      rintro e w1 ⟨rfl, g1⟩
      rw [HSH.out.1, HSH.out.2.1, HSH.out.2.2]
      go_wp2
      go_ret
      exact ⟨rfl, g1⟩
    · have q1 : decide (i < 1) = false := by simpa using hi1
      by_cases hn : nd L i = none
      · rw [if_neg (by rintro (h | h); exact hi1 h; exact h hn)] at hX
        exact absurd hX.symm h0
      · rw [if_pos (.inr hn)] at hX
        subst hX
        obtain ⟨x, hx⟩ := Option.ne_none_iff_exists'.1 hn
        clear h hY0 h0 hi1 hn
        go_enter Try.func17, Try.ntmps17
        go_wp2_with fail
        refine (shape_any HT.out HG.out.cl HG.out.rt l c).mono ?_
        rintro e w1 ⟨rfl, g1⟩
        rw [HSH.out.1, HSH.out.2.1, HSH.out.2.2]
        obtain ⟨b, br, bd, hb, hl, hx'⟩ := look_some (HG.out.grow g1) hi hx
        have k1 := (HG.out.grow g1).cell1
        clear hx'
        go_wp2
        go_ret
        exact ⟨rfl, g1⟩
theorem rt_rf {K R D : Int} {f : Bool} (h : rtB K R D f = true) (hr : isRf K = true) : 1 ≤ R := by
  unfold rtB at h
  rw [if_pos hr] at h
  simp at h
  omega
/-- The map takes a new node in. -/
theorem Gr.put (h : Gr w z S p m tb f ow cs L) (hi : In64 i) (hn : nd L i = none) (hl : L.length < 1000000) {x : Nd} (hx : x.id = i) (hok : x.Ok cs) {W : World} (g : Grow w W) {b br bd : Nat}
    (hb : Blk W b 87 [.int .i64 x.id, .int .i64 x.c, .slice (some ⟨br, 0, none⟩) x.refs.length x.refs.length, .slice (some ⟨bd, 0, none⟩) x.data.length x.data.length, .bool x.fin, .int .i64 x.wo])
    (hr : Blk W br 3 (ints x.refs)) (hd : Blk W bd 3 (ints x.data)) (hne : br ≠ bd) (h1 : w.heap.size ≤ b) (h2 : w.heap.size ≤ br) (h3 : w.heap.size ≤ bd) :
    ∃ W', (Instr.mapUpdate 76 (.map (some m)) (.int .i64 i) (.pointer (some ⟨b, 0, none⟩))).run Try.prog W = .ok () W' ∧ Chg (· = m) W W' ∧ Chg S w W' ∧
      ∃ S' f' ow', Gr W' z S' p m tb f' ow' cs (ins L x) ∧ ∀ k, S' k ↔ S k ∨ (w.heap.size ≤ k ∧ k < W'.heap.size) := by
  have hzw : z ≤ w.heap.size := Nat.le_of_lt (Nat.lt_of_le_of_lt (h.s p h.sp).1 (h.s p h.sp).2)
  have hG := h.grow g
  obtain ⟨W', hrun, hM, hc⟩ := hG.map.put h.f_iff (srt_nodup h.srt) (by rw [List.length_map]; unfold maxLen; omega) hi b
  have hm := h.s m h.sm
  have hp := h.s p h.sp
  have hcc : Chg S w W' := (g.mono (fun _ _ h => h.elim)).step hc fun k _ hk => by rw [hk]; exact h.sm
  refine ⟨W', hrun, hc, hcc, fun k => S k ∨ (w.heap.size ≤ k ∧ k < W'.heap.size), fun y => if y = i then some b else f y, fun k => if k < w.heap.size then ow k else i, ?_, fun _ => Iff.rfl⟩
  have hgW := hc.size
  have ob := hb.lt
  have obr := hr.lt
  have obd := hd.lt
  refine ⟨hG.blk.chg hc h.pm, hM, .inl h.sp, .inl h.sm, h.pm, ?_, ?_, ?_, ?_, ins_srt h.srt (by rw [hx]; exact hn), ?_, ?_, h.cl, h.rt⟩
  · simp only [if_pos hm.2, if_pos hp.2]
    exact h.om
  · rintro k (hk | hk)
    · have := h.s k hk
      exact ⟨this.1, Nat.lt_of_lt_of_le this.2 hcc.size⟩
    · exact ⟨Nat.le_trans hzw hk.1, hk.2⟩
  · intro y hy
    rcases mem_ins.1 hy with rfl | hy
    · refine ⟨b, by simp [hx], br, bd, hb.chg hc (by omega), hr.chg hc (by omega), hd.chg hc (by omega), hne, ?_, .inr ⟨h1, by omega⟩, .inr ⟨h2, by omega⟩, .inr ⟨h3, by omega⟩⟩
      have e1 : ¬ b < w.heap.size := by omega
      have e2 : ¬ br < w.heap.size := by omega
      have e3 : ¬ bd < w.heap.size := by omega
      simp only [if_neg e1, if_neg e2, if_neg e3]
      exact ⟨hx.symm, hx.symm, hx.symm⟩
    · obtain ⟨b', hb', hnd⟩ := hG.nds y hy
      have hyi : y.id ≠ i := nd_none hn y hy
      refine ⟨b', by simp only [if_neg hyi]; exact hb', ?_⟩
      have hy1 := (h.ok y hy).id1
      refine (hnd.chg hc fun k hk ho hkm => ?_).wide (fun k hk => .inl hk) fun k hk => ?_
      · rw [hkm, h.om.1] at ho; omega
      · rw [if_pos (h.s k hk).2]
  · intro j hj
    by_cases e : j = i
    · exact ⟨x, mem_ins.2 (.inl rfl), by rw [hx, e]⟩
    · simp only [if_neg e] at hj
      obtain ⟨y, hy, hyj⟩ := h.no j hj
      exact ⟨y, mem_ins.2 (.inr hy), hyj⟩
  · intro y hy
    rcases mem_ins.1 hy with rfl | hy
    · exact hok
    · exact h.ok y hy
  · obtain ⟨base, v, t, t1, t2⟩ := hG.tab
    exact ⟨base, v, Tb.chgT t t1 t2 hc fun k hk => by rw [hk]; exact hm.1, t1, t2⟩
set_option maxRecDepth 100000 in
set_option maxHeartbeats 4000000 in
theorem add_yes (h : Gr w z S p m tb f ow cs L) (hi : In64 i) (hX : adX cs L i c l = 0) (hl : L.length < 1000000) :
    Calls Try.prog 17 #[ptr p, .int .i64 i, .int .i64 c, .int .i64 l] w fun e w' => e = .returned (.int .i64 0) ∧ Chg S w w' ∧
      ∃ S' f' ow', Gr w' z S' p m tb f' ow' cs (ins L (newNd cs i c l)) ∧ ∀ k, S' k ↔ S k ∨ (w.heap.size ≤ k ∧ k < w'.heap.size) := by
  have HG := hide h
  obtain ⟨base, v, ht⟩ := h.tb_
  have HT := hide ht
  have k0 := h.cell0
  clear ht
  have hY : shX (clAt cs c) l = 0 := by
    unfold adX at hX
    by_cases e : shX (clAt cs c) l ≠ 0
    · rw [if_pos e] at hX; exact absurd hX e
    · exact Classical.not_not.1 e
  have hi1 : ¬ (i < 1 ∨ nd L i ≠ none) := by
    intro e
    unfold adX at hX
    rw [if_neg (by simp [hY]), if_pos e] at hX
    cases hX
  have q1 : decide (i < 1) = false := decide_eq_false (fun e => hi1 (.inl e))
  have hn : nd L i = none := Classical.not_not.1 (fun e => hi1 (.inr e))
  obtain ⟨k, hk⟩ : ∃ k, clAt cs c = some k := by
    cases hc : clAt cs c with
    | none => rw [hc] at hY; simp [shX] at hY
    | some k => exact ⟨k, rfl⟩
  obtain ⟨j, hcj, hjl, hjc⟩ := clAt_some hk
  have hbd := L5.sh_bd (o := clAt cs c) (fun k hk => L5.clAt_rt h.rt hk) l
  obtain ⟨R, hR⟩ : ∃ R, shR (clAt cs c) l = R := ⟨_, rfl⟩
  obtain ⟨D, hD⟩ : ∃ D, shD (clAt cs c) l = D := ⟨_, rfl⟩
  obtain ⟨V, hV⟩ : ∃ V, woV (clAt cs c) l = V := ⟨_, rfl⟩
  have HSH := hide (⟨hR, hD, hY⟩ : shR (clAt cs c) l = R ∧ shD (clAt cs c) l = D ∧ shX (clAt cs c) l = 0)
  have hV2 : V = 2 + R + D := by rw [← hV, ← hR, ← hD]; unfold woV; rw [if_pos hY]
  rw [hR, hD] at hbd
  have HB := hide hbd
  have HC := hide hjc
  have HCJ := hide hcj
  have href : isRf k.k = true → 1 ≤ R := fun hrf => by
    have h1 := rt_rf (L5.clAt_rt h.rt hk) hrf
    have h2 : R = k.r + l ∧ ¬ l < 0 := by
      rw [hk] at hR hY
      unfold shR at hR
      simp only [hY, if_true] at hR
      unfold shX at hY
      refine ⟨hR.symm, fun hl0 => ?_⟩
      simp [hl0] at hY
    omega
  have hnew : newNd cs i c l = ⟨i, c, zeros R.toNat, zeros D.toNat, k.f⟩ := by unfold newNd; rw [hR, hD, hk]
  have hok : Nd.Ok cs ⟨i, c, zeros R.toNat, zeros D.toNat, k.f⟩ := by
    refine ⟨?_, hi, ?_, ?_, ?_, k, hk, fun hrf => ?_⟩
    · have := of_decide_eq_false q1; show 1 ≤ i; omega
    · show (zeros R.toNat).length ≤ 30; rw [zeros_length]; omega
    · show (zeros D.toNat).length ≤ 30; rw [zeros_length]; omega
    · intro r hr
      have : r = 0 := by have := List.eq_of_mem_replicate hr; exact this
      rw [this]; show (Lit.int .i64 0).wf = true; decide
    · have := href hrf; show 0 < (zeros R.toNat).length; rw [zeros_length]; omega
  have HOK := hide hok
  have HN := hide hnew
  clear hok hnew href
  have HV := hide (⟨hV, hY, hV2⟩ : woV (clAt cs c) l = V ∧ shX (clAt cs c) l = 0 ∧ V = 2 + R + D)
  have HK := hide hk
  have HL := hide hl
  have mk1 := mk_ints R hbd.1 (by omega)
  have mk2 := mk_ints D hbd.2.2.1 (by omega)
  obtain ⟨kk, kr, kd, kf⟩ := k
  clear hR hD hY h hX hi1 hV hV2 hbd hjc hcj hjl hk hl
  go_enter Try.func17, Try.ntmps17
  go_wp2_with fail
  refine (shape_any HT.out HG.out.cl HG.out.rt l c).mono ?_
  rintro e w1 ⟨rfl, g1⟩
  rw [HSH.out.1, HSH.out.2.1, HSH.out.2.2]
  have hl0 := look_none (HG.out.grow g1) hi hn
  have k1 := (HG.out.grow g1).cell1
  replace k0 := (HG.out.grow g1).cell0
  go_wp2_with fail
  refine (of_in (HT.out.grow g1) HG.out.cl HC.out HCJ.out).mono ?_
  rintro e w2 ⟨rfl, g2⟩
  dsimp only
  have g2' := g2.trans (Grow.box w2 (.cells [.int .i64 kk, .int .i64 kr, .int .i64 kd, .bool kf].toArray 54))
  replace k0 := Grow.cell g2' k0
  have hkb := Blk.new w2 54 [.int .i64 kk, .int .i64 kr, .int .i64 kd, .bool kf]
  go_wp2_with fail
  have ht2 := (HT.out.grow g1).grow g2'
  have HKB := hide (show m < w2.heap.size by have := (HG.out.s m HG.out.sm).2; have := g1.size; have := g2.size; omega)
  generalize w2.heap.size = kb at *
  generalize w2.alloc (.cells #[.int .i64 kk, .int .i64 kr, .int .i64 kd, .bool kf] 54) = w3 at *
  refine (words_any ht2 HG.out.cl HG.out.rt l c).mono ?_
  rintro e w4 ⟨rfl, g4⟩
  rw [HV.out.1, HV.out.2.1]
  replace k1 := Grow.cell (g2'.trans g4) k1
  have kf3 : w4.cell? ⟨kb, 3, none⟩ = some (.bool kf) := g4.cell (hkb.cell 3)
  clear hkb k0 ht2 g2 hl0
  have g5 := (g1.trans g2').trans g4
  clear g1 g2' g4
  have hn0 := HN.out
  have ord1 : ∀ A B : Nat, ((w4.alloc (.cells (ints (zeros A)).toArray 3)).alloc (.cells (ints (zeros B)).toArray 3)).heap.size = w4.heap.size + 1 + 1 := fun A B => by simp
  have eR : (zeros R.toNat).length = R.toNat := zeros_length _
  have eD : (zeros D.toNat).length = D.toNat := zeros_length _
  have eV : ((2 + (zeros R.toNat).length + (zeros D.toNat).length : Nat) : Int) = V := by have := HB.out; have := HV.out.2.2; rw [eR, eD]; omega
  have hA1 := (Blk.new w4 3 (ints (zeros R.toNat))).alloc (.cells (ints (zeros D.toNat)).toArray 3)
  have hB1 := Blk.new (w4.alloc (.cells (ints (zeros R.toNat)).toArray 3)) 3 (ints (zeros D.toNat))
  rw [show (w4.alloc (.cells (ints (zeros R.toNat)).toArray 3)).heap.size = w4.heap.size + 1 by simp] at hB1
  have hA2 := (Blk.new w4 3 (ints (zeros D.toNat))).alloc (.cells (ints (zeros R.toNat)).toArray 3)
  have hB2 := Blk.new (w4.alloc (.cells (ints (zeros D.toNat)).toArray 3)) 3 (ints (zeros R.toNat))
  rw [show (w4.alloc (.cells (ints (zeros D.toNat)).toArray 3)).heap.size = w4.heap.size + 1 by simp] at hB2
  obtain ⟨W1, hr1, hc1, hcc1, hG1⟩ := Gr.put (x := ⟨i, c, zeros R.toNat, zeros D.toNat, kf⟩) (W := (((w4.alloc (.cells (ints (zeros R.toNat)).toArray 3)).alloc (.cells (ints (zeros D.toNat)).toArray 3)).alloc (.cells #[.int .i64 i, .int .i64 c, .slice (some ⟨w4.heap.size, 0, none⟩) R.toNat R.toNat, .slice (some ⟨w4.heap.size + 1, 0, none⟩) D.toNat D.toNat, .bool kf, .int .i64 V] 87)).drew) (b := w4.heap.size + 1 + 1) (br := w4.heap.size) (bd := w4.heap.size + 1)
    HG.out hi hn HL.out rfl HOK.out ((((g5.alloc _).alloc _).alloc _).drew)
    (by
      have := Blk.new ((w4.alloc (.cells (ints (zeros R.toNat)).toArray 3)).alloc (.cells (ints (zeros D.toNat)).toArray 3)) 87 [.int .i64 i, .int .i64 c, .slice (some ⟨w4.heap.size, 0, none⟩) R.toNat R.toNat, .slice (some ⟨w4.heap.size + 1, 0, none⟩) D.toNat D.toNat, .bool kf, .int .i64 V]
      rw [ord1] at this
      show Blk _ _ _ [.int .i64 i, .int .i64 c, .slice _ (zeros R.toNat).length (zeros R.toNat).length, .slice _ (zeros D.toNat).length (zeros D.toNat).length, .bool kf, .int .i64 ((2 + (zeros R.toNat).length + (zeros D.toNat).length : Nat) : Int)]
      rw [eV, eR, eD]
      exact this.drew)
    (by exact (hA1.alloc _).drew) (by exact (hB1.alloc _).drew) (by omega) (by have := g5.size; omega) (by have := g5.size; omega) (by have := g5.size; omega)
  have hk1 : W1.cell? ⟨p, 1, none⟩ = some (.map (some m)) ∧ W1.cell? ⟨kb, 3, none⟩ = some (.bool kf) := ⟨Chg.cell hc1 (Grow.cell ((((Grow.box w4 _).alloc _).alloc _).drew) k1) HG.out.pm, Chg.cell hc1 (Grow.cell ((((Grow.box w4 _).alloc _).alloc _).drew) kf3) (by have := HKB.out; show ¬ kb = m; omega)⟩
  have HH1 := hide (⟨hcc1, hG1⟩ : Chg S w W1 ∧ _)
  clear hc1 hcc1 hG1
  obtain ⟨W2, hr2, hc2, hcc2, hG2⟩ := Gr.put (x := ⟨i, c, zeros R.toNat, zeros D.toNat, kf⟩) (W := (((w4.alloc (.cells (ints (zeros D.toNat)).toArray 3)).alloc (.cells (ints (zeros R.toNat)).toArray 3)).alloc (.cells #[.int .i64 i, .int .i64 c, .slice (some ⟨w4.heap.size + 1, 0, none⟩) R.toNat R.toNat, .slice (some ⟨w4.heap.size, 0, none⟩) D.toNat D.toNat, .bool kf, .int .i64 V] 87)).drew) (b := w4.heap.size + 1 + 1) (br := w4.heap.size + 1) (bd := w4.heap.size)
    HG.out hi hn HL.out rfl HOK.out ((((g5.alloc _).alloc _).alloc _).drew)
    (by
      have := Blk.new ((w4.alloc (.cells (ints (zeros D.toNat)).toArray 3)).alloc (.cells (ints (zeros R.toNat)).toArray 3)) 87 [.int .i64 i, .int .i64 c, .slice (some ⟨w4.heap.size + 1, 0, none⟩) R.toNat R.toNat, .slice (some ⟨w4.heap.size, 0, none⟩) D.toNat D.toNat, .bool kf, .int .i64 V]
      rw [ord1] at this
      show Blk _ _ _ [.int .i64 i, .int .i64 c, .slice _ (zeros R.toNat).length (zeros R.toNat).length, .slice _ (zeros D.toNat).length (zeros D.toNat).length, .bool kf, .int .i64 ((2 + (zeros R.toNat).length + (zeros D.toNat).length : Nat) : Int)]
      rw [eV, eR, eD]
      exact this.drew)
    (by exact (hB2.alloc _).drew) (by exact (hA2.alloc _).drew) (by omega) (by have := g5.size; omega) (by have := g5.size; omega) (by have := g5.size; omega)
  have hk2 : W2.cell? ⟨p, 1, none⟩ = some (.map (some m)) ∧ W2.cell? ⟨kb, 3, none⟩ = some (.bool kf) := ⟨Chg.cell hc2 (Grow.cell ((((Grow.box w4 _).alloc _).alloc _).drew) k1) HG.out.pm, Chg.cell hc2 (Grow.cell ((((Grow.box w4 _).alloc _).alloc _).drew) kf3) (by have := HKB.out; show ¬ kb = m; omega)⟩
  have HH2 := hide (⟨hcc2, hG2⟩ : Chg S w W2 ∧ _)
  clear hc2 hcc2 hG2
  clear hA1 hB1 hA2 hB2 ord1 eR eD eV hn0
  go_wp2_with fail
  go_region_held3 (fun W => W.cell? ⟨p, 1, none⟩ = some (.map (some m)) ∧ W.cell? ⟨kb, 3, none⟩ = some (.bool kf)) (first | assumption | (refine ⟨Grow.cell ?_ k1, Grow.cell ?_ kf3⟩ <;> (repeat (first | exact Chg.refl _ _ | refine Chg.drew ?_ | refine Chg.alloc ?_ _)))) (fail)
  all_goals go_wp2
  all_goals go_ret
  · exact ⟨rfl, HH1.out.1, by rw [HN.out]; exact HH1.out.2⟩
  · exact ⟨rfl, HH2.out.1, by rw [HN.out]; exact HH2.out.2⟩
end
end Go.Proofs.Ytjofdamobnemcaa.L9
