/- Graphs: Node, Aim: what they answer. Conditions: the number fits an int. -/
import Derived.Test.YtjofdamobnemcaaOwn
import Derived.Test.YtjofdamobnemcaaL9Sp
import Derived.Test.YtjofdamobnemcaaL9Call
import Derived.Lib.SliceRun
import Derived.Deep.RegionHeld3
namespace Go.Proofs.Ytjofdamobnemcaa.L9
open Go.ChangeShapes Go.WideShapes Go.ChangeAt Go.RowKit Go.Maps
open Go.Proofs.Ytjofdamobnemcaa.L5 (Cl clV rtB Tb clAt shX shR shD woV hoB IsCls newX isRf)
set_option linter.unusedVariables false
theorem Try.infoI : (Try.prog.info? 3).map (fun i => (i.zero, i.size, i.bytes)) = some (some (.int .i64 0), 1, 8) := by kernel_rfl
theorem own_base {w : World} {base base' : Nat} {e : TypeId} {size : Nat} {v : Value} {n : Nat} {xs : List Value} (h : w.ownsRow base e size v n xs) (hb : base' ≤ base) : w.ownsRow base' e size v n xs := by
  obtain ⟨h1, h2⟩ := h
  refine ⟨h1, ?_⟩
  rcases h2 with h2 | ⟨g, cap, cur, rfl, hge, r⟩
  · exact .inl h2
  · exact .inr ⟨g, cap, cur, rfl, Nat.le_trans hb hge, r⟩
set_option maxHeartbeats 1000000 in
/-- slices.Clone of a list of numbers. -/
theorem cloneI {w : World} {b : Nat} {xs : List Int} (h : Blk w b 3 (ints xs)) (hl : xs.length ≤ 1000000) :
    Calls Try.prog 52 #[.slice (some ⟨b, 0, none⟩) xs.length xs.length] w fun e w' => ∃ a cap, e = .returned (.slice a xs.length cap) ∧ w'.ownsRow w.heap.size 3 1 (.slice a xs.length cap) xs.length (ints xs) ∧ Grow w w' := by
  have q : ∀ (w : World) (a : Option Addr) (n c n' c' : Nat), (binOp .eql 27 (.slice a n c) (.slice none n' c')).run Try.prog w = .ok (.bool a.isNone) w := fun w a n c n' c' => Lib.run_eql_slice_nil w _ _ a n c n' c' Try.underlying27
  obtain ⟨i0, hi0, hz0, hz1, hz2⟩ := info_parts Try.infoI
  have HI := hide hi0
  have HZ0 := hide hz0
  have HZ1 := hide hz1
  have HZ2 := hide hz2
  have H := hide h
  clear hi0 hz0 hz1 hz2 h
  have HO := hide (World.ownsRow_lit (e := 3) (size := 1) (base := w.heap.size) w #[] 0 (Nat.le_refl _) (by simp [maxLen]) rfl)
  have HX := hide (ints_length xs)
  generalize xs.length = n at *
  go_enter Try.func52, Try.ntmps52
  go_wp2_with (at_builtin; refine wpList_append_own _ rfl _ _ 27 rfl w.heap.size 3 i0 (.int .i64 0) 1 8 Try.underlying27 HI.out HZ0.out HZ1.out HZ2.out rfl (by decide) _ _ _ rfl HO.out ⟨b, 0, none⟩ n n (ints xs) rfl ?q0 ?c1 ?c2 ?c3 ?c4 ?c5 ?_)
  case q0 => rw [HX.out]
  case c1 => intro j u hj; refine Grow.cell (Grow.box _ _) ?_; rw [H.out.cell]; exact hj
  case c2 => exact ints_one xs
  case c3 => unfold maxLen; omega
  case c4 => omega
  intro v' w3 hown3 hgrow _
  have c3 := Chg.grownOwn (Grow.box w (.cells [].toArray 3)) HO.out (Nat.le_refl _) hgrow
  obtain ⟨a, cap, rfl⟩ := own_len hown3
  have HO3 := hide hown3
  clear hown3 hgrow HO
  go_wp2
  go_ret
  exact ⟨_, _, rfl, HO3.out, c3⟩
section
variable {w : World} {z p m tb : Nat} {S : Nat → Prop} {f : Int → Option Nat} {ow : Nat → Int} {cs : List Cl} {L : List Nd} {x : Nd} {i : Int}
/-- The node that is told where there is none. -/
abbrev noNd : List Value := [.int .i64 0, .int .i64 0, .slice none 0 0, .slice none 0 0, .bool false]
set_option maxRecDepth 100000 in
set_option maxHeartbeats 1000000 in
theorem node_none (h : Gr w z S p m tb f ow cs L) (hi : In64 i) (hn : nd L i = none) :
    Calls Try.prog 40 #[ptr p, .int .i64 i] w fun e w' => e = .returned (.tuple #[.agg #[.int .i64 0, .int .i64 0, .slice none 0 0, .slice none 0 0, .bool false], .int .i64 7]) ∧ Grow w w' := by
  have g0 := Grow.box w (.cells noNd.toArray 45)
  have HG := hide (h.grow g0)
  have hl := look_none HG.out hi hn
  clear h
  go_enter Try.func40, Try.ntmps40
  go_wp2_with fail
  refine (all_g HG.out).mono ?_
  rintro e w' ⟨rfl, rfl⟩
  go_wp2
  go_returns
  exact ⟨rfl, g0⟩
set_option maxRecDepth 100000 in
set_option maxHeartbeats 1000000 in
theorem node_some (h : Gr w z S p m tb f ow cs L) (hi : In64 i) (hn : nd L i = some x) :
    Calls Try.prog 40 #[ptr p, .int .i64 i] w fun e w' => ∃ ar cr ad cd, e = .returned (.tuple #[.agg #[.int .i64 x.id, .int .i64 x.c, .slice ar x.refs.length cr, .slice ad x.data.length cd, .bool x.fin], .int .i64 0]) ∧
      w'.ownsRow w.heap.size 3 1 (.slice ar x.refs.length cr) x.refs.length (ints x.refs) ∧ w'.ownsRow w.heap.size 3 1 (.slice ad x.data.length cd) x.data.length (ints x.data) ∧
        (∀ k, (Value.slice ar x.refs.length cr).ownBlock = some k → (Value.slice ad x.data.length cd).ownBlock ≠ some k) ∧ Grow w w' := by
  have g0 := Grow.box w (.cells noNd.toArray 45)
  have h0 := Blk.new w 45 noNd
  have HG := hide (h.grow g0)
  obtain ⟨b, br, bd, hb, hl, hx⟩ := look_some HG.out hi hn
  have HO := hide (h.ok x (nd_some hn).1)
  obtain ⟨c0, c1, c2, c3, c4, c5⟩ := hx.cells
  obtain ⟨e4, e7, gB, F4, F7, hne⟩ := boxes2 w 45 noNd 45 [.int .i64 x.id, .int .i64 x.c, .slice (some ⟨br, 0, none⟩) x.refs.length x.refs.length, .slice (some ⟨bd, 0, none⟩) x.data.length x.data.length, .bool x.fin]
  have hbl : b < w.heap.size ∧ br < w.heap.size ∧ bd < w.heap.size := ⟨(h.s b hx.2.2.2.2.2.1).2, (h.s br hx.2.2.2.2.2.2.1).2, (h.s bd hx.2.2.2.2.2.2.2).2⟩
  have hxb := hx.1.alloc (.cells [.int .i64 x.id, .int .i64 x.c, .slice (some ⟨br, 0, none⟩) x.refs.length x.refs.length, .slice (some ⟨bd, 0, none⟩) x.data.length x.data.length, .bool x.fin].toArray 45)
  have hxr := hx.2.1.alloc (.cells [.int .i64 x.id, .int .i64 x.c, .slice (some ⟨br, 0, none⟩) x.refs.length x.refs.length, .slice (some ⟨bd, 0, none⟩) x.data.length x.data.length, .bool x.fin].toArray 45)
  have hxd := hx.2.2.1.alloc (.cells [.int .i64 x.id, .int .i64 x.c, .slice (some ⟨br, 0, none⟩) x.refs.length x.refs.length, .slice (some ⟨bd, 0, none⟩) x.data.length x.data.length, .bool x.fin].toArray 45)
  have hrl := HO.out.rl
  have hdl := HO.out.dl
  have HCR := hide (fun W (hS : (W.cell? ⟨b, 2, none⟩ = some (.slice (some ⟨br, 0, none⟩) x.refs.length x.refs.length) ∧ W.cell? ⟨b, 3, none⟩ = some (.slice (some ⟨bd, 0, none⟩) x.data.length x.data.length) ∧ Blk W br 3 (ints x.refs) ∧ Blk W bd 3 (ints x.data))) => cloneI (w := W) (b := br) (xs := x.refs) hS.2.2.1 (by omega))
  have HCD := hide (fun W (hS : (W.cell? ⟨b, 2, none⟩ = some (.slice (some ⟨br, 0, none⟩) x.refs.length x.refs.length) ∧ W.cell? ⟨b, 3, none⟩ = some (.slice (some ⟨bd, 0, none⟩) x.data.length x.data.length) ∧ Blk W br 3 (ints x.refs) ∧ Blk W bd 3 (ints x.data))) => cloneI (w := W) (b := bd) (xs := x.data) hS.2.2.2 (by omega))
  have HKS := hide (fun W W' (c : Grow W W') (hS : (W.cell? ⟨b, 2, none⟩ = some (.slice (some ⟨br, 0, none⟩) x.refs.length x.refs.length) ∧ W.cell? ⟨b, 3, none⟩ = some (.slice (some ⟨bd, 0, none⟩) x.data.length x.data.length) ∧ Blk W br 3 (ints x.refs) ∧ Blk W bd 3 (ints x.data))) => (show (W'.cell? ⟨b, 2, none⟩ = some (.slice (some ⟨br, 0, none⟩) x.refs.length x.refs.length) ∧ W'.cell? ⟨b, 3, none⟩ = some (.slice (some ⟨bd, 0, none⟩) x.data.length x.data.length) ∧ Blk W' br 3 (ints x.refs) ∧ Blk W' bd 3 (ints x.data)) by
    exact ⟨Grow.cell c hS.1, Grow.cell c hS.2.1, hS.2.2.1.chg c id, hS.2.2.2.chg c id⟩))
  have HKT := hide (fun W (j : Nat) u (hS : (W.cell? ⟨b, 2, none⟩ = some (.slice (some ⟨br, 0, none⟩) x.refs.length x.refs.length) ∧ W.cell? ⟨b, 3, none⟩ = some (.slice (some ⟨bd, 0, none⟩) x.data.length x.data.length) ∧ Blk W br 3 (ints x.refs) ∧ Blk W bd 3 (ints x.data))) => (show ((W.setCell ⟨w.heap.size + 1, j, none⟩ u).cell? ⟨b, 2, none⟩ = some (.slice (some ⟨br, 0, none⟩) x.refs.length x.refs.length) ∧ (W.setCell ⟨w.heap.size + 1, j, none⟩ u).cell? ⟨b, 3, none⟩ = some (.slice (some ⟨bd, 0, none⟩) x.data.length x.data.length) ∧ Blk (W.setCell ⟨w.heap.size + 1, j, none⟩ u) br 3 (ints x.refs) ∧ Blk (W.setCell ⟨w.heap.size + 1, j, none⟩ u) bd 3 (ints x.data)) by
    refine ⟨?_, ?_, hS.2.2.1.far (by show br ≠ w.heap.size + 1; omega) _, hS.2.2.2.far (by show bd ≠ w.heap.size + 1; omega) _⟩
    · exact Chg.cell (S := (· = w.heap.size + 1)) ((Chg.refl _ _).set1 _ _) hS.1 (by show ¬ b = w.heap.size + 1; omega)
    · exact Chg.cell (S := (· = w.heap.size + 1)) ((Chg.refl _ _).set1 _ _) hS.2.1 (by show ¬ b = w.heap.size + 1; omega)))
  clear h hbl hx hrl hdl
  go_enter Try.func40, Try.ntmps40
  go_wp2_with fail
  refine (all_g HG.out).mono ?_
  rintro e w' ⟨rfl, rfl⟩
  go_wp2_with fail
  generalize (w.alloc (.cells noNd.toArray 45)).alloc (.cells #[.int .i64 x.id, .int .i64 x.c, .slice (some ⟨br, 0, none⟩) x.refs.length x.refs.length, .slice (some ⟨bd, 0, none⟩) x.data.length x.data.length, .bool x.fin] 45) = w2 at *
  have hs0 : (w2.cell? ⟨b, 2, none⟩ = some (.slice (some ⟨br, 0, none⟩) x.refs.length x.refs.length) ∧ w2.cell? ⟨b, 3, none⟩ = some (.slice (some ⟨bd, 0, none⟩) x.data.length x.data.length) ∧ Blk w2 br 3 (ints x.refs) ∧ Blk w2 bd 3 (ints x.data)) := ⟨hxb.cell 2, hxb.cell 3, hxr, hxd⟩
  have HSZ := hide (show w.heap.size + 1 < w2.heap.size from e7.lt)
  clear c0 c1 c2 c3 c4 c5 h0 g0 F4 F7 hxb hxr hxd HG hl HO hb hi hn hne
  go_region_held3 (fun W => W.cell? ⟨b, 2, none⟩ = some (.slice (some ⟨br, 0, none⟩) x.refs.length x.refs.length) ∧ W.cell? ⟨b, 3, none⟩ = some (.slice (some ⟨bd, 0, none⟩) x.data.length x.data.length) ∧ Blk W br 3 (ints x.refs) ∧ Blk W bd 3 (ints x.data)) (first | assumption | (refine HKS.out _ _ ?_ (by assumption); assumption) | (refine HKT.out _ _ _ ?_; assumption)) (first
    | (go_at_call 52; refine (HCR.out _ (by assumption)).mono ?_; rintro e w5 ⟨ar, cr, rfl, hor, g5⟩; (first | replace e7 := e7.chg g5 id | replace e7 := e7.drew.chg g5 id))
    | (go_at_call 52; refine (HCD.out _ (by assumption)).mono ?_; rintro e w6 ⟨ad, cd, rfl, hod, g6⟩; (first | replace e7 := e7.chg g6 id | replace e7 := e7.drew.chg g6 id); (have y2 : w6.cell? ⟨w.heap.size + 1, 2, none⟩ = some (.slice (some ⟨br, 0, none⟩) x.refs.length x.refs.length) := e7.cell 2); have z2 := e7.frozen 2; (have y3 : (w6.setCell ⟨w.heap.size + 1, 2, none⟩ (.slice ar x.refs.length cr)).cell? ⟨w.heap.size + 1, 3, none⟩ = some (.slice (some ⟨bd, 0, none⟩) x.data.length x.data.length) := (e7.set_ 2 (.slice ar x.refs.length cr)).cell 3); have z3 := (e7.set_ 2 (.slice ar x.refs.length cr)).frozen 3))
  have e7' := (e7.set_ 2 (.slice ar x.refs.length cr)).set_ 3 (.slice ad x.data.length cd)
  have e4' := (((e4.drew.chg g5 id).chg g6 id).far (p := ⟨w.heap.size + 1, 2, none⟩) (by show w.heap.size ≠ w.heap.size + 1; omega) (.slice ar x.refs.length cr)).far (p := ⟨w.heap.size + 1, 3, none⟩) (by show w.heap.size ≠ w.heap.size + 1; omega) (.slice ad x.data.length cd)
  have c7 : Chg (fun k => k = w.heap.size ∨ k = w.heap.size + 1) w6 ((w6.setCell ⟨w.heap.size + 1, 2, none⟩ (.slice ar x.refs.length cr)).setCell ⟨w.heap.size + 1, 3, none⟩ (.slice ad x.data.length cd)) := ((Chg.refl _ _).setCell (fun _ => .inr rfl) _).setCell (fun _ => .inr rfl) _
  have G6 := hide (And.intro (gB.drew.trans g5) g6)
  have HOR := hide (And.intro hor hod)
  have HS5 := hide (show w2.heap.size ≤ w5.heap.size from g5.size)
  clear e7 e4 y2 z2 y3 z3 hs0 HCR HCD HKS HKT g5 g6 hor hod gB
  generalize (w6.setCell ⟨w.heap.size + 1, 2, none⟩ (.slice ar x.refs.length cr)).setCell ⟨w.heap.size + 1, 3, none⟩ (.slice ad x.data.length cd) = w7 at e7' e4' c7 ⊢
  have x0 : w7.cell? ⟨w.heap.size + 1, 0, none⟩ = some (.int .i64 x.id) := e7'.cell 0
  have x1 : w7.cell? ⟨w.heap.size + 1, 1, none⟩ = some (.int .i64 x.c) := e7'.cell 1
  have x2 : w7.cell? ⟨w.heap.size + 1, 2, none⟩ = some (.slice ar x.refs.length cr) := e7'.cell 2
  have x3 : w7.cell? ⟨w.heap.size + 1, 3, none⟩ = some (.slice ad x.data.length cd) := e7'.cell 3
  have x4 : w7.cell? ⟨w.heap.size + 1, 4, none⟩ = some (.bool x.fin) := e7'.cell 4
  have y0 : w7.cell? ⟨w.heap.size, 0, none⟩ = some (.int .i64 0) := e4'.cell 0
  have y1 : w7.cell? ⟨w.heap.size, 1, none⟩ = some (.int .i64 0) := e4'.cell 1
  have y2 : w7.cell? ⟨w.heap.size, 2, none⟩ = some (.slice none 0 0) := e4'.cell 2
  have y3 : w7.cell? ⟨w.heap.size, 3, none⟩ = some (.slice none 0 0) := e4'.cell 3
  have y4 : w7.cell? ⟨w.heap.size, 4, none⟩ = some (.bool false) := e4'.cell 4
  have z0 := e4'.frozen 0
  have z1 := e4'.frozen 1
  have z2 := e4'.frozen 2
  have z3 := e4'.frozen 3
  have z4 := e4'.frozen 4
  go_wp2
  have e8 := ((((e4'.set_ 0 (.int .i64 x.id)).set_ 1 (.int .i64 x.c)).set_ 2 (.slice ar x.refs.length cr)).set_ 3 (.slice ad x.data.length cd)).set_ 4 (.bool x.fin)
  have c8 : Chg (fun k => k = w.heap.size ∨ k = w.heap.size + 1) w6 (((((w7.setCell ⟨w.heap.size, 0, none⟩ (.int .i64 x.id)).setCell ⟨w.heap.size, 1, none⟩ (.int .i64 x.c)).setCell ⟨w.heap.size, 2, none⟩ (.slice ar x.refs.length cr)).setCell ⟨w.heap.size, 3, none⟩ (.slice ad x.data.length cd)).setCell ⟨w.heap.size, 4, none⟩ (.bool x.fin)) := ((((c7.setCell (fun _ => .inl rfl) _).setCell (fun _ => .inl rfl) _).setCell (fun _ => .inl rfl) _).setCell (fun _ => .inl rfl) _).setCell (fun _ => .inl rfl) _
  clear x0 x1 x2 x3 x4 y0 y1 y2 y3 y4 z0 z1 z2 z3 z4 e7' e4' c7
  generalize ((((w7.setCell ⟨w.heap.size, 0, none⟩ (.int .i64 x.id)).setCell ⟨w.heap.size, 1, none⟩ (.int .i64 x.c)).setCell ⟨w.heap.size, 2, none⟩ (.slice ar x.refs.length cr)).setCell ⟨w.heap.size, 3, none⟩ (.slice ad x.data.length cd)).setCell ⟨w.heap.size, 4, none⟩ (.bool x.fin) = w8 at e8 c8 ⊢
  have y0 : w8.cell? ⟨w.heap.size, 0, none⟩ = some (.int .i64 x.id) := e8.cell 0
  have y1 : w8.cell? ⟨w.heap.size, 1, none⟩ = some (.int .i64 x.c) := e8.cell 1
  have y2 : w8.cell? ⟨w.heap.size, 2, none⟩ = some (.slice ar x.refs.length cr) := e8.cell 2
  have y3 : w8.cell? ⟨w.heap.size, 3, none⟩ = some (.slice ad x.data.length cd) := e8.cell 3
  have y4 : w8.cell? ⟨w.heap.size, 4, none⟩ = some (.bool x.fin) := e8.cell 4
  refine bodyPost_ret (v := .tuple #[.agg #[.int .i64 x.id, .int .i64 x.c, .slice ar x.refs.length cr, .slice ad x.data.length cd, .bool x.fin], .int .i64 0]) (by simp [results, Try.results40, go_sem, y0, y1, y2, y3, y4]) rfl ?_
  have hs1 : w.heap.size + 1 < w2.heap.size := HSZ.out
  have hs2 : w2.heap.size ≤ w5.heap.size := HS5.out
  have r1 := HOR.out.1
  have r2 := HOR.out.2
  have l1 : ∀ k, (Value.slice ar x.refs.length cr).ownBlock = some k → w2.heap.size ≤ k ∧ k < w5.heap.size := fun k hk => r1.lt k hk
  have l2 : ∀ k, (Value.slice ad x.data.length cd).ownBlock = some k → w5.heap.size ≤ k ∧ k < w6.heap.size := fun k hk => r2.lt k hk
  refine ⟨ar, cr, ad, cd, rfl, ?_, ?_, ?_, ?_⟩
  · exact own_chg (own_grow (own_base r1 (by show w.heap.size ≤ w2.heap.size; omega)) G6.out.2) c8 fun k hk e => by have := l1 k hk; omega
  · exact own_chg (own_base r2 (by omega)) c8 fun k hk e => by have := l2 k hk; omega
  · intro k h1 h2
    have := l1 k h1
    have := l2 k h2
    omega
  · exact (G6.out.1.trans G6.out.2).step c8 fun i hi e => by omega
end
end Go.Proofs.Ytjofdamobnemcaa.L9
