/- Reference processing: that the program is awake; how the laws begin. Conditions: none. -/
import Derived.Test.YtjfpjnhlnoiekaaGreatL13R
import Derived.Test.YtjfpjnhlnoiekaaGreatL13Y
import Derived.Test.YtjfpjnhlnoiekaaGreatL13D
namespace Go.Proofs.YtjfpjnhlnoiekaaGreat.L13
open Go.ChangeShapes Go.WideShapes Go.ChangeAt Go.RowKit
open Go.Proofs.YtjfpjnhlnoiekaaGreat.L10
open Go.Proofs.YtjfpjnhlnoiekaaGreat.L9 (Nd nd GS RG Rf Lok In64 Srt nd_some nd_none nd_mem own_rd own_cast ptr Bo newX_rt new_tz new_gr add_gs setref_gs adX adL srX srL hldX aimX)
open Go.Proofs.YtjfpjnhlnoiekaaGreat.L5 (Cl clAt isRf IsCls newX)
set_option linter.unusedVariables false
def wC : List Cl := [⟨4, 1, 2, false⟩, ⟨1, 0, 0, true⟩]
def wL : List Nd := [⟨1, 1, [2], [0, 0], false⟩, ⟨2, 2, [], [], true⟩]
theorem wL_nd {i : Int} (h : nd wL i ≠ none) : i = 1 ∨ i = 2 := by
  obtain ⟨x, hx⟩ := Option.ne_none_iff_exists'.1 h
  obtain ⟨h1, rfl⟩ := nd_some hx
  simp only [wL, List.mem_cons, List.not_mem_nil, or_false] at h1
  rcases h1 with rfl | rfl
  · exact .inl rfl
  · exact .inr rfl
def wp1 : Int → Bool := fun i => decide (i = 1)
def wp2 : Int → Bool := fun i => decide (i = 1) || decide (i = 2)
theorem w_rs : Rs wC wL no [1] wp1 wp2 := by
  have h1 : Kc wC wL no [1] 1 := .st (by simp) (by decide)
  have hs : clL wL wp1 ++ clL wL (fi wL wp1) = [1, 2] := by decide
  refine ⟨IsKc.mk (fun i hi => ?_) (fun i hi _ => ?_) (fun i j hi hj hn => ?_) fun i _ _ hk => (by cases hk), ?_⟩
  · obtain rfl := of_decide_eq_true hi
    exact h1
  · rw [List.mem_singleton.1 hi]; rfl
  · obtain rfl := of_decide_eq_true hi
    have : hldX wC wL 1 = [] := by decide
    rw [this] at hj
    cases hj
  · rw [hs]
    refine IsRc.mk (fun i hi => ?_) (fun i hi hn => ?_) fun i j hi hj hn => ?_
    · unfold wp2 at hi
      rw [Bool.or_eq_true, decide_eq_true_eq, decide_eq_true_eq] at hi
      rcases hi with rfl | rfl
      · exact .st (by simp) (by decide)
      · exact .st (by simp) (by decide)
    · rcases wL_nd hn with rfl | rfl <;> rfl
    · rcases wL_nd hn with rfl | rfl <;> rfl
theorem w_ran : clL wL wp2 = [1, 2] ∧ ces wC wL wp1 wp2 = [1] ∧ clL wL (fi wL wp1) = [2] := by decide
set_option maxRecDepth 100000 in
set_option maxHeartbeats 2000000 in
theorem awake_any (w : World) :
    Calls Tryz.prog 5 #[] w fun e w' => e = .returned (.bool true) ∧ Grow w w' := by
  have hl := Blk.new w 61 [.int .i64 4, .int .i64 1, .int .i64 2, .bool false, .int .i64 1, .int .i64 0, .int .i64 0, .bool true]
  have cw := Grow.box w (.cells [.int .i64 4, .int .i64 1, .int .i64 2, .bool false, .int .i64 1, .int .i64 0, .int .i64 0, .bool true].toArray 61)
  have HI := hide (L5.IsCls.two (c := ⟨4, 1, 2, false⟩) (d := ⟨1, 0, 0, true⟩) hl (by decide) (by decide))
  clear hl
  go_enter Tryz.func5, Tryz.ntmps5
  go_wp2_with fail
  refine (new_tz HI.out (by decide) (by decide)).mono ?_
  rintro e w1 ⟨g, rfl, ht, c1⟩
  replace cw := cw.trans c1
  have HT := hide ht
  have hsz : w.heap.size ≤ w1.heap.size := cw.size
  clear ht HI c1
  go_wp2_with fail
  refine (new_gr HT.out (Nat.le_refl _)).mono ?_
  rintro e w2 ⟨p, S, rfl, g2, hG, hS⟩
  have cc : Chg (fun k => w.heap.size ≤ k) w w2 := (cw.trans g2).mono fun _ _ h => h.elim
  clear g2 cw hS HT
  have HG := hide hG
  have hzs : ∀ k, S k → w.heap.size ≤ k := fun k hk => Nat.le_trans hsz (hG.s hk).1
  clear hG
  go_wp2_with fail
  refine (add_gs HG.out (by decide) (show (Lit.int .i64 1).wf = true by decide) 1 0).mono ?_
  rintro e w3 ⟨rfl, c3, S3, h3, hs3⟩
  rw [show adX [⟨4, 1, 2, false⟩, ⟨1, 0, 0, true⟩] [] 1 1 0 = 0 by decide]
  rw [show adL [⟨4, 1, 2, false⟩, ⟨1, 0, 0, true⟩] [] 1 1 0 = [⟨1, 1, [0], [0, 0], false⟩] by rfl] at h3
  replace cc := cc.step c3 fun i hi h => hzs i h
  clear c3 HG hs3 hzs
  have HG := hide h3
  have hzs : ∀ k, S3 k → w.heap.size ≤ k := fun k hk => Nat.le_trans hsz (h3.s hk).1
  clear h3
  go_wp2_with fail
  refine (add_gs HG.out (by decide) (show (Lit.int .i64 2).wf = true by decide) 2 0).mono ?_
  rintro e w4 ⟨rfl, c4, S4, h4, hs4⟩
  rw [show adX [⟨4, 1, 2, false⟩, ⟨1, 0, 0, true⟩] [⟨1, 1, [0], [0, 0], false⟩] 2 2 0 = 0 by decide]
  rw [show adL [⟨4, 1, 2, false⟩, ⟨1, 0, 0, true⟩] [⟨1, 1, [0], [0, 0], false⟩] 2 2 0 = [⟨1, 1, [0], [0, 0], false⟩, ⟨2, 2, [], [], true⟩] by rfl] at h4
  replace cc := cc.step c4 fun i hi h => hzs i h
  clear c4 HG hs4 hzs
  have HG := hide h4
  have hzs : ∀ k, S4 k → w.heap.size ≤ k := fun k hk => Nat.le_trans hsz (h4.s hk).1
  clear h4
  go_wp2_with fail
  refine (setref_gs HG.out (show (Lit.int .i64 1).wf = true by decide) (show (Lit.int .i64 0).wf = true by decide) (show (Lit.int .i64 2).wf = true by decide)).mono ?_
  rintro e w5 ⟨rfl, c5, h5⟩
  rw [show srX [⟨1, 1, [0], [0, 0], false⟩, ⟨2, 2, [], [], true⟩] 1 0 2 = 0 by decide]
  rw [show srL [⟨1, 1, [0], [0, 0], false⟩, ⟨2, 2, [], [], true⟩] 1 0 2 = wL by rfl] at h5
  replace h5 : GS w5 _ S4 p wC wL := h5
  replace cc := cc.step c5 fun i hi h => hzs i h
  clear c5 HG hzs
  have HG := hide h5
  clear h5
  have HIN := hide (show ∀ i ∈ [(1 : Int)], In64 i from fun i hi => by rw [List.mem_singleton.1 hi]; exact (show (Lit.int .i64 1).wf = true by decide))
  have gB := Grow.box w5 (.cells [.int .i64 1].toArray 3)
  have hrd : L1.Rd (w5.alloc (.cells [.int .i64 1].toArray 3)) (some ⟨w5.heap.size, 0, none⟩) 1 [1] := L1.Rd.of_blk (Blk.new w5 3 [.int .i64 1]) rfl
  have HC1 := hide (run_nil (cc := 1) (HG.out.grow gB) (by decide) hrd (by omega) HIN.out w_rs)
  have HG1 := hide gB
  clear gB hrd
  go_wp2_with fail
  refine HC1.out.mono ?_
  rintro e w6 ⟨a1, c1, a2, c2, a3, c3, rfl, -, ho2, ho3, c6⟩
  obtain ⟨e1, e2, e3⟩ := w_ran
  rw [e2] at ho2
  rw [e3] at ho3
  rw [e1, e2, e3]
  simp only [List.length_cons, List.length_nil, Nat.zero_add, Nat.reduceAdd] at ho2 ho3 ⊢
  obtain ⟨g2, cp2, f2, -⟩ := ho2.pos (by simp)
  injection f2 with f2 f3 f4
  clear f3 f4
  subst f2
  obtain ⟨g3, cp3, f2, -⟩ := ho3.pos (by simp)
  injection f2 with f2 f3 f4
  clear f3 f4
  subst f2
  have gR := Grow.box w6 (.cells [.slice a1 2 c1, .slice (some ⟨g2, 0, none⟩) 1 c2, .slice (some ⟨g3, 0, none⟩) 1 c3].toArray 35)
  have hb6 := Blk.new w6 35 [.slice a1 2 c1, .slice (some ⟨g2, 0, none⟩) 1 c2, .slice (some ⟨g3, 0, none⟩) 1 c3]
  have k2 := gR.cell (ho2.cell (k := 0) (by simp))
  have k3 := gR.cell (ho3.cell (k := 0) (by simp))
  simp only [List.getD_cons_zero] at k2 k3
  have r0 := hb6.cell 0
  have r1 := hb6.cell 1
  have r2 := hb6.cell 2
  have HG2 := hide ((HG1.out.trans c6).trans gR)
  clear c6 HC1 ho2 ho3 gR hb6 e1 e2 e3
  go_wp2
  go_ret
  exact ⟨rfl, (cc.step HG2.out fun _ _ h => h.elim).mono fun i hi h => by omega⟩


/-- All that stands behind the beginning of a law. -/
structure St (w W : World) (b z p q : Nat) (S T : Nat → Prop) (ca : Option Addr) (cl cc : Nat) (na : Option Addr) (nl nc : Nat) (ra : Option Addr) (rl rc : Nat) (cs : List Cl) (L : List Nd) (a1 : Option Addr) (n1 c1 : Nat) (zs : List Int) : Prop where
  gw : Grow w W
  gs : GS W z S p cs L
  pg : Pg W z T q ca cl cc cs L
  ap : ∀ k, S k → ¬ T k
  row : IsRow .i64 W a1 n1 c1 zs
  box : Blk W b 26 [.slice ca cl cc, .slice na nl nc, .slice ra rl rc]
  ids : L.map Nd.id = nms nl
  n40 : nl ≤ 40
  rv : Rv L
  fv : Fv cs L
  zw : w.heap.size ≤ z
  zb : b < z
  rt : IsRow .i64 w a1 n1 c1 zs
  z40 : n1 ≤ 40
section
variable {w W W' : World} {b z p q : Nat} {S T : Nat → Prop} {ca na ra a1 : Option Addr} {cl cc nl nc rl rc n1 c1 : Nat} {cs : List Cl} {L : List Nd} {zs : List Int} {u : Wo}
theorem St.grow (h : St w W b z p q S T ca cl cc na nl nc ra rl rc cs L a1 n1 c1 zs) (g : Grow W W') : St w W' b z p q S T ca cl cc na nl nc ra rl rc cs L a1 n1 c1 zs :=
  ⟨h.gw.trans g, h.gs.grow g, h.pg.grow g, h.ap, h.row.chg g fun _ _ => id, h.box.chg g id, h.ids, h.n40, h.rv, h.fv, h.zw, h.zb, h.rt, h.z40⟩
theorem St.len (h : St w W b z p q S T ca cl cc na nl nc ra rl rc cs L a1 n1 c1 zs) : L.length = nl := by have := congrArg List.length h.ids; rwa [List.length_map, nms_len] at this
theorem St.rd (h : St w W b z p q S T ca cl cc na nl nc ra rl rc cs L a1 n1 c1 zs) : L1.Rd W a1 n1 zs := (row_rd h.row).1
theorem St.i64 (h : St w W b z p q S T ca cl cc na nl nc ra rl rc cs L a1 n1 c1 zs) : ∀ i ∈ zs, In64 i := (row_rd h.row).2
theorem St.ll (h : St w W b z p q S T ca cl cc na nl nc ra rl rc cs L a1 n1 c1 zs) : L.length < 1000000 := by rw [h.len]; have := h.n40; omega
theorem St.cl_in (h : St w W b z p q S T ca cl cc na nl nc ra rl rc cs L a1 n1 c1 zs) (f : Int → Bool) : (∀ i ∈ clL L f, In64 i) ∧ (clL L f).length ≤ 1000000 :=
  ⟨clL_in fun x hx => (h.gs.ok hx).id2, by have := clL_le L f; have := h.ll; omega⟩
theorem St.end_ (h : St w W b z p q S T ca cl cc na nl nc ra rl rc cs L a1 n1 c1 zs) : Below w.heap.size w W := h.gw.below (fun _ _ h => h) (Nat.le_refl _)
theorem St.ref (h : St w W b z p q S T ca cl cc na nl nc ra rl rc cs L a1 n1 c1 zs) {x : Nd} (hx : x ∈ L) {r : Int} (hr : r ∈ x.refs) (h0 : r ≠ 0) : nd L r ≠ none := by
  have h1 := h.rv x hx r hr
  obtain ⟨y, hy, hi⟩ := nms_at h.ids (j := (r - 1).toNat) (by have := h.len; omega)
  have e : y.id = r := by omega
  rw [← e, nd_mem h.gs.srt (List.mem_of_getElem? hy)]
  simp
/-- Names. -/
theorem St.at_ (h : St w W b z p q S T ca cl cc na nl nc ra rl rc cs L a1 n1 c1 zs) {k : Nat} (h1 : 1 ≤ k) (h2 : k ≤ nl) : ∃ x, nd L k = some x ∧ x.id = k := by
  obtain ⟨x, hx, hi⟩ := nms_at h.ids (j := k - 1) (by omega)
  have e : x.id = (k : Int) := by omega
  exact ⟨x, by rw [← e]; exact nd_mem h.gs.srt (List.mem_of_getElem? hx), e⟩
theorem St.named (h : St w W b z p q S T ca cl cc na nl nc ra rl rc cs L a1 n1 c1 zs) {i : Int} (hn : nd L i ≠ none) : ∃ k : Nat, i = k ∧ 1 ≤ k ∧ k ≤ nl := by
  obtain ⟨x, hx⟩ := Option.ne_none_iff_exists'.1 hn
  obtain ⟨h1, rfl⟩ := nd_some hx
  have hm : x.id ∈ nms nl := by rw [← h.ids]; exact List.mem_map_of_mem h1
  unfold nms at hm
  obtain ⟨j, hj, e⟩ := List.mem_map.1 hm
  have := List.mem_range.1 hj
  exact ⟨j + 1, by omega, by omega, by omega⟩
end
end Go.Proofs.YtjfpjnhlnoiekaaGreat.L13
