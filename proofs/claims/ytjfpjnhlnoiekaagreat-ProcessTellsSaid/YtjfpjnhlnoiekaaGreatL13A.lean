/- Reference processing: which nodes are lost; which nodes something is true of; the functions that are passed there. Conditions: fewer than 1000000 nodes. -/
import Derived.Test.YtjfpjnhlnoiekaaGreatL13S
import Derived.Test.YtjfpjnhlnoiekaaGreatL9C
import Derived.Test.YtjfpjnhlnoiekaaGreatL10C
import Derived.Handy
namespace Go.Proofs.YtjfpjnhlnoiekaaGreat.L13
open Go.ChangeShapes Go.WideShapes Go.ChangeAt Go.RowKit Go.Maps
open Go.Proofs.YtjfpjnhlnoiekaaGreat.L9 (Nd nd Srt In64 GS Mn pt ptr hldX aimX nd_some nd_none nd_mem own_rd wpList_app)
open Go.Proofs.YtjfpjnhlnoiekaaGreat.L10 (Rc IsRc outs clL fins fnB clL_srt put OL ol_nil app_more take_step clL_step clL_le)
open Go.Proofs.YtjfpjnhlnoiekaaGreat.L5 (Cl clAt isRf)
set_option linter.unusedVariables false
section
variable {w W W' : World} {s p m z b : Nat} {f : Int → Option Nat} {ia : Option Addr} {ic : Nat} {cs : List Cl} {L : List Nd} {q c : Int → Bool} {wv : Value} {wq : Int → Bool} {S T : Nat → Prop} {x : Nd} {i : Int}
theorem aim_in (hok : ∀ x ∈ L, x.Ok cs) (i : Int) : In64 (aimX cs L i).1 := by
  have h0 : In64 0 := (show (Lit.int .i64 0).wf = true by decide)
  unfold aimX
  split
  · exact h0
  · rename_i x hx
    split
    · dsimp only
      cases hr : x.refs with
      | nil => exact h0
      | cons r l => exact (hok x (nd_some hx).1).rw_ r (by rw [hr]; simp)
    · exact h0
theorem los_no (hn : isN L (aimX cs L i).1 = false) : los cs L q i = false := by
  unfold los
  rw [hn]
  simp
theorem los_yes (hn : isN L (aimX cs L i).1 = true) : los cs L q i = (q i && !q (aimX cs L i).1) := by
  unfold los
  rw [hn]
  simp
set_option maxRecDepth 100000 in
set_option maxHeartbeats 1000000 in
theorem loses_any (h : Sn w W s p m f ia ic cs L q c wv wq) (hok : ∀ x ∈ L, x.Ok cs) (hx : x ∈ L) (hb : f x.id = some b) :
    Calls Tryz.prog 54 #[ptr s, ptr b] W fun e W' => e = .returned (.bool (los cs L q x.id)) ∧ Grow W W' := by
  obtain ⟨b0, hb0, hP⟩ := h.nds x hx
  obtain rfl : b = b0 := by rw [hb] at hb0; injection hb0
  obtain ⟨-, x5, -, x7, -⟩ := hP.cells
  have c2 := h.c2
  have hai := aim_in hok x.id
  obtain ⟨t, ht⟩ : ∃ t, (aimX cs L x.id).1 = t := ⟨_, rfl⟩
  cases hn : nd L t with
  | none =>
    have hX : los cs L q x.id = false := los_no (by unfold isN; rw [ht, hn]; rfl)
    have HL := hide (fun (W' : World) (g : Grow W W') => pn_look (h.map.chg g id) hai)
    rw [ht, h.no t hn] at HL
    rw [ht] at x5
    clear h hP hb hb0 hok hai ht hn
    cases hq : q x.id with
    | false =>
      have HX := hide hX
      have HQ := hide hq
      rw [hq] at x7
      clear hX hq
      go_enter Tryz.func54, Tryz.ntmps54
      go_wp2_with fail
      refine wp_region_grow (by kernel_rfl) (by kernel_rfl) ?_
      repeat (
        with_reducible refine wpQuiet_step ?_
        intro K hK
        first
          | ((with_reducible refine quiet_offT rfl ?_ (hK _ ?_)); focus (refine ⟨_, rfl, ?_⟩; with_reducible rfl))
          | ((with_reducible refine quiet_offF rfl ?_ (hK _ ?_)); focus (refine ⟨_, rfl, ?_⟩; with_reducible rfl))
          | ((with_reducible refine quiet_offN rfl ?_ (hK _ ?_)); focus (exact rfl))
          | ((first | with_reducible refine quiet_free rfl ?_ | ((with_reducible refine quiet_on rfl ?_ ?_); focus (refine ⟨_, rfl, ?_⟩; with_reducible rfl)))
             apply Exists.intro
             refine ⟨fun Wq hW => ?_, hK _ ?_⟩
             focus (have q0 := Grow.cell hW c2; have q1 := Grow.cell hW x5; have q2 := HL.out _ hW; go_simp; first | done | with_reducible rfl))
        clear hK K
        simp only [Act.put, List.setIfInBounds_toArray, List.set_cons_zero, List.set_cons_succ])
      with_reducible refine wpQuiet_nil ?_
      intro w9 c9
      replace x7 := Grow.cell c9 x7
      skip
      go_wp2
      go_ret
      rw [HX.out]
      exact ⟨rfl, c9⟩
    | true =>
      have HX := hide hX
      have HQ := hide hq
      rw [hq] at x7
      clear hX hq
      go_enter Tryz.func54, Tryz.ntmps54
      go_wp2_with fail
      refine wp_region_grow (by kernel_rfl) (by kernel_rfl) ?_
      repeat (
        with_reducible refine wpQuiet_step ?_
        intro K hK
        first
          | ((with_reducible refine quiet_offT rfl ?_ (hK _ ?_)); focus (refine ⟨_, rfl, ?_⟩; with_reducible rfl))
          | ((with_reducible refine quiet_offF rfl ?_ (hK _ ?_)); focus (refine ⟨_, rfl, ?_⟩; with_reducible rfl))
          | ((with_reducible refine quiet_offN rfl ?_ (hK _ ?_)); focus (exact rfl))
          | ((first | with_reducible refine quiet_free rfl ?_ | ((with_reducible refine quiet_on rfl ?_ ?_); focus (refine ⟨_, rfl, ?_⟩; with_reducible rfl)))
             apply Exists.intro
             refine ⟨fun Wq hW => ?_, hK _ ?_⟩
             focus (have q0 := Grow.cell hW c2; have q1 := Grow.cell hW x5; have q2 := HL.out _ hW; go_simp; first | done | with_reducible rfl))
        clear hK K
        simp only [Act.put, List.setIfInBounds_toArray, List.set_cons_zero, List.set_cons_succ])
      with_reducible refine wpQuiet_nil ?_
      intro w9 c9
      replace x7 := Grow.cell c9 x7
      skip
      go_wp2
      go_ret
      rw [HX.out]
      exact ⟨rfl, c9⟩
  | some y =>
    obtain ⟨bt, hbt, hPt⟩ := h.f_nd hn
    obtain ⟨-, -, -, y7, -⟩ := hPt.cells
    rw [(nd_some hn).2] at y7
    rw [ht] at hai
    have HL := hide (fun (W' : World) (g : Grow W W') => pn_at (h.map.chg g id) hai hbt)
    have hX : los cs L q x.id = (q x.id && !q t) := by rw [los_yes (by unfold isN; rw [ht, hn]; rfl), ht]
    rw [ht] at x5
    clear h hP hPt hb hb0 hok hai ht hn hbt
    cases hq : q x.id with
    | false =>
      rw [hq] at hX
      have HX := hide hX
      have HQ := hide hq
      rw [hq] at x7
      clear hX hq
      go_enter Tryz.func54, Tryz.ntmps54
      go_wp2_with fail
      refine wp_region_grow (by kernel_rfl) (by kernel_rfl) ?_
      repeat (
        with_reducible refine wpQuiet_step ?_
        intro K hK
        first
          | ((with_reducible refine quiet_offT rfl ?_ (hK _ ?_)); focus (refine ⟨_, rfl, ?_⟩; with_reducible rfl))
          | ((with_reducible refine quiet_offF rfl ?_ (hK _ ?_)); focus (refine ⟨_, rfl, ?_⟩; with_reducible rfl))
          | ((with_reducible refine quiet_offN rfl ?_ (hK _ ?_)); focus (exact rfl))
          | ((first | with_reducible refine quiet_free rfl ?_ | ((with_reducible refine quiet_on rfl ?_ ?_); focus (refine ⟨_, rfl, ?_⟩; with_reducible rfl)))
             apply Exists.intro
             refine ⟨fun Wq hW => ?_, hK _ ?_⟩
             focus (have q0 := Grow.cell hW c2; have q1 := Grow.cell hW x5; have q2 := HL.out _ hW; go_simp; first | done | with_reducible rfl))
        clear hK K
        simp only [Act.put, List.setIfInBounds_toArray, List.set_cons_zero, List.set_cons_succ])
      with_reducible refine wpQuiet_nil ?_
      intro w9 c9
      replace x7 := Grow.cell c9 x7
      skip
      go_wp2
      go_ret
      rw [HX.out]
      exact ⟨rfl, c9⟩
    | true =>
      rw [hq] at hX
      cases hqt : q t with
      | false =>
        rw [hqt] at hX y7
        clear hqt
        have HX := hide hX
        have HQ := hide hq
        rw [hq] at x7
        clear hX hq
        go_enter Tryz.func54, Tryz.ntmps54
        go_wp2_with fail
        refine wp_region_grow (by kernel_rfl) (by kernel_rfl) ?_
        repeat (
          with_reducible refine wpQuiet_step ?_
          intro K hK
          first
            | ((with_reducible refine quiet_offT rfl ?_ (hK _ ?_)); focus (refine ⟨_, rfl, ?_⟩; with_reducible rfl))
            | ((with_reducible refine quiet_offF rfl ?_ (hK _ ?_)); focus (refine ⟨_, rfl, ?_⟩; with_reducible rfl))
            | ((with_reducible refine quiet_offN rfl ?_ (hK _ ?_)); focus (exact rfl))
            | ((first | with_reducible refine quiet_free rfl ?_ | ((with_reducible refine quiet_on rfl ?_ ?_); focus (refine ⟨_, rfl, ?_⟩; with_reducible rfl)))
               apply Exists.intro
               refine ⟨fun Wq hW => ?_, hK _ ?_⟩
               focus (have q0 := Grow.cell hW c2; have q1 := Grow.cell hW x5; have q2 := HL.out _ hW; go_simp; first | done | with_reducible rfl))
          clear hK K
          simp only [Act.put, List.setIfInBounds_toArray, List.set_cons_zero, List.set_cons_succ])
        with_reducible refine wpQuiet_nil ?_
        intro w9 c9
        replace x7 := Grow.cell c9 x7
        (replace y7 := Grow.cell c9 y7)
        go_wp2
        go_ret
        rw [HX.out]
        exact ⟨rfl, c9⟩
      | true =>
        rw [hqt] at hX y7
        clear hqt
        have HX := hide hX
        have HQ := hide hq
        rw [hq] at x7
        clear hX hq
        go_enter Tryz.func54, Tryz.ntmps54
        go_wp2_with fail
        refine wp_region_grow (by kernel_rfl) (by kernel_rfl) ?_
        repeat (
          with_reducible refine wpQuiet_step ?_
          intro K hK
          first
            | ((with_reducible refine quiet_offT rfl ?_ (hK _ ?_)); focus (refine ⟨_, rfl, ?_⟩; with_reducible rfl))
            | ((with_reducible refine quiet_offF rfl ?_ (hK _ ?_)); focus (refine ⟨_, rfl, ?_⟩; with_reducible rfl))
            | ((with_reducible refine quiet_offN rfl ?_ (hK _ ?_)); focus (exact rfl))
            | ((first | with_reducible refine quiet_free rfl ?_ | ((with_reducible refine quiet_on rfl ?_ ?_); focus (refine ⟨_, rfl, ?_⟩; with_reducible rfl)))
               apply Exists.intro
               refine ⟨fun Wq hW => ?_, hK _ ?_⟩
               focus (have q0 := Grow.cell hW c2; have q1 := Grow.cell hW x5; have q2 := HL.out _ hW; go_simp; first | done | with_reducible rfl))
          clear hK K
          simp only [Act.put, List.setIfInBounds_toArray, List.set_cons_zero, List.set_cons_succ])
        with_reducible refine wpQuiet_nil ?_
        intro w9 c9
        replace x7 := Grow.cell c9 x7
        (replace y7 := Grow.cell c9 y7)
        go_wp2
        go_ret
        rw [HX.out]
        exact ⟨rfl, c9⟩
set_option maxRecDepth 100000 in
set_option maxHeartbeats 1000000 in
/-- slices.Contains of one or two numbers. -/
theorem index_any {a : Option Addr} {n cc : Nat} {ks : List Int} {k : Int} (h : L1.Rd w a n ks) (hn : n ≤ 1000) :
    Calls Tryz.prog 72 #[.slice a n cc, .int .i64 k] w fun e w' => ∃ r : Int, e = .returned (.int .i64 r) ∧ (decide (r ≥ 0) = ks.contains k) ∧ w = w' := by
  have HR := hide h
  have HN := hide hn
  clear h hn
  go_enter Tryz.func72, Tryz.ntmps72
  go_wp2_with fail
  go_loopw [8] (fun v wr => ∃ j : Nat, j ≤ n ∧ v = .int .i64 j ∧ (ks.take j).contains k = false ∧ w = wr) (fun v _ => n - (Go.RowKit.intOf v).toNat)
  case atStart => exact ⟨0, Nat.zero_le _, rfl, by simp, rfl⟩
  case round =>
    obtain ⟨j, hj, rfl, hno, rfl⟩ := hrel
    have hkl := HR.out.1
    rcases Nat.eq_or_lt_of_le hj with hje | hlt
    · have hje2 := hje.symm
      subst hje2
      clear hje hj
      have q1 : decide ((n : Int) < n) = false := by simp
      have HX := hide (show decide ((-1 : Int) ≥ 0) = ks.contains k by rw [← hkl, List.take_length] at hno; rw [hno]; decide)
      clear hno hkl
      go_wp2
      go_ret
      exact ⟨_, rfl, HX.out, rfl⟩
    · have q1 : decide ((j : Int) < n) = true := decide_eq_true (by omega)
      have q2 : j < n := hlt
      obtain ⟨x, rfl, hx⟩ := HR.out.at_ hlt
      have hw : IntKind.i64.wrap ((j : Int) + 1) = ((j + 1 : Nat) : Int) := (IntWalk.i64_in _ (by have := HN.out; omega)).trans (by omega)
      have htk : ks.take (j + 1) = ks.take j ++ [ks.getD j 0] := by
        rw [List.take_add_one, List.getElem?_eq_getElem (by omega), List.getD_eq_getElem?_getD, List.getElem?_eq_getElem (by omega)]
        rfl
      have hm : ks.getD j 0 ∈ ks := L10.getD_mem (by omega)
      generalize ks.getD j 0 = u at *
      by_cases he : k = u
      · have HX := hide (show decide ((j : Int) ≥ 0) = ks.contains k by rw [he, List.contains_iff_mem.2 hm]; simp)
        have q3 : (k == u) = true := by simpa using he
        clear hno htk hm he hj hlt hkl
        go_wp2
        go_ret
        exact ⟨_, rfl, HX.out, rfl⟩
      · have q3 : (k == u) = false := by simpa using he
        have HNO := hide (show (ks.take (j + 1)).contains k = false by rw [htk, List.contains_append, hno]; simp [he])
        have HLT := hide hlt
        clear hno htk hm he hj hlt hkl
        go_wp2
        go_roundw
        case rel => exact ⟨j + 1, HLT.out, rfl, HNO.out, by first | rfl | trivial⟩
        case measure => have := HLT.out; simp [Go.RowKit.intOf]; omega
set_option maxRecDepth 100000 in
theorem contains_any {a : Option Addr} {n cc : Nat} {ks : List Int} (k : Int) (h : L1.Rd w a n ks) (hn : n ≤ 1000) :
    Calls Tryz.prog 56 #[.slice a n cc, .int .i64 k] w fun e w' => e = .returned (.bool (ks.contains k)) ∧ w = w' := by
  have HI := hide (index_any (k := k) (cc := cc) h hn)
  clear h hn
  go_enter Tryz.func56, Tryz.ntmps56
  go_wp2_with fail
  refine HI.out.mono ?_
  rintro e w' ⟨r, rfl, hr, rfl⟩
  have HR := hide hr
  clear hr
  go_wp2
  go_ret
  exact ⟨ret_bool (by simpa using HR.out), rfl⟩
set_option maxRecDepth 100000 in
set_option maxHeartbeats 1000000 in
/-- The nodes of which something is true. -/
theorem which_by {fid : Nat} {lb : Array Value} {P : Int → Bool} (eg : ∀ args w, (callFunc fid args).run Tryz.prog w = .ok (.enter fid args) w) (h : Sn w W s p m f ia ic cs L q c wv wq) (hok : ∀ x ∈ L, x.Ok cs) (hl : L.length < 1000000)
    (hp : ∀ W' x b, Grow W W' → x ∈ L → f x.id = some b → Calls Tryz.prog fid (#[ptr b] ++ lb) W' fun e w' => e = .returned (.bool (P x.id)) ∧ Grow W' w') :
    Calls Tryz.prog 28 #[ptr s, .func (.func fid) #[] lb] W fun e W' => ∃ a cc, e = .returned (.slice a (clL L P).length cc) ∧ OL W' W.heap.size (.slice a (clL L P).length cc) (clL L P) ∧ Grow W W' := by
  obtain ⟨N, hN⟩ : ∃ N, L.length = N := ⟨_, rfl⟩
  have HH := hide h
  have HP := hide hp
  have HOK := hide hok
  have HL := hide hl
  have HNN := hide hN
  have c1 := h.c1
  have c2 := h.c2
  rw [hN] at c1
  clear h hp hok hl hN
  go_enter Tryz.func28, Tryz.ntmps28
  go_wp2_with fail
  clear c1 c2
  go_loopw [5, 13] (fun v u wr => ∃ k : Nat, k ≤ N ∧ u = .int .i64 k ∧ OL wr W.heap.size v (clL (L.take k) P) ∧ Grow W wr) (fun _ u _ => N - (Go.RowKit.intOf u).toNat)
  case atStart => exact ⟨0, Nat.zero_le _, rfl, ol_nil _ _, Chg.refl _ _⟩
  case round =>
    obtain ⟨k, hk, rfl, ho, hg⟩ := hrel
    rcases Nat.eq_or_lt_of_le hk with hke | hlt
    · have hke2 := hke.symm
      subst hke2
      clear hke
      have q1 : decide ((N : Int) < N) = false := by simp
      have HO := hide ho
      have HG := hide hg
      clear ho hg hk
      go_wp2
      go_ret
      have ho := HO.out
      rw [← HNN.out, List.take_length] at ho
      obtain ⟨a', c', rfl⟩ := own_len ho
      exact ⟨a', c', rfl, ho, HG.out⟩
    · have q1 : decide ((k : Int) < N) = true := decide_eq_true (by omega)
      have q2 : k < N := hlt
      obtain ⟨x, hx⟩ : ∃ x, L[k]? = some x := ⟨_, List.getElem?_eq_getElem (by rw [HNN.out]; exact hlt)⟩
      have hw : IntKind.i64.wrap ((k : Int) + 1) = ((k + 1 : Nat) : Int) := (IntWalk.i64_in _ (by have := HL.out; have := HNN.out; omega)).trans (by omega)
      have hS := HH.out.grow hg
      obtain ⟨g, rfl, k0⟩ := hS.id_at hx
      have hxm := List.mem_of_getElem? hx
      obtain ⟨b, hb, -⟩ := hS.nds x hxm
      have c2 := hS.c2
      have hlook := pn_at hS.map (HOK.out x hxm).id2 hb
      have HC := hide (HP.out wr x b hg hxm hb)
      have HLT := hide hlt
      have hst := clL_step (q := P) hx
      obtain ⟨i, hi⟩ : ∃ i, x.id = i := ⟨_, rfl⟩
      rw [hi] at k0 hlook HC hst
      have HG := hide hg
      have HO := hide ho
      have HLN := hide (show (clL (L.take k) P).length ≤ 1000000 by have h1 := clL_le (L.take k) P; have h2 := HL.out; rw [List.length_take] at h1; omega)
      clear hS hxm hb hx hi hlt hk hg ho
      cases hpx : P i with
      | false =>
        rw [hpx] at HC hst
        rw [if_neg (by simp), List.append_nil] at hst
        have HS := hide hst
        clear hst hpx
        go_wp2_with fail
        refine HC.out.mono ?_
        rintro e w1 ⟨rfl, c1⟩
        have HO1 := hide (HO.out.grow c1)
        have HG1 := hide (HG.out.trans c1)
        clear c1 c2 k0 hlook
        go_wp2
        go_roundw
        case rel => exact ⟨k + 1, HLT.out, rfl, by rw [HS.out]; exact HO1.out, HG1.out⟩
        case measure => have := HLT.out; simp [Go.RowKit.intOf]; omega
      | true =>
        rw [hpx] at HC hst
        rw [if_pos rfl] at hst
        have HS := hide hst
        clear hst hpx
        go_wp2_with fail
        refine HC.out.mono ?_
        rintro e w1 ⟨rfl, c1⟩
        have gB := Grow.box w1 (.cells [.int .i64 i].toArray 3)
        obtain ⟨v', W', hr, ho', cg', -⟩ := app_more (c0 := 1) ((HG.out.trans c1).trans gB) ((HO.out.grow c1).grow gB) (L1.Rd.of_blk (Blk.new w1 3 [.int .i64 i]) rfl : L1.Rd _ _ 1 [i]) (by have := HLN.out; omega)
        have KA := hide hr
        have HO1 := hide ho'
        have HG1 := hide cg'
        clear c1 c2 k0 hlook gB hr ho' cg'
        go_wp2_with (at_builtin; refine wpList_app rfl _ _ 27 rfl u5 (.slice (some ⟨w1.heap.size, 0, none⟩) 1 1) v' _ W' rfl rfl KA.out ?_)
        go_roundw
        case rel => exact ⟨k + 1, HLT.out, rfl, by rw [HS.out]; exact HO1.out, HG1.out⟩
        case measure => have := HLT.out; simp [Go.RowKit.intOf]; omega
set_option maxRecDepth 100000 in
/-- The functions that are passed. -/
theorem run1_any (h : Sn w W s p m f ia ic cs L q c wv wq) (hs : Srt L) (hx : x ∈ L) (hb : f x.id = some b) :
    Calls Tryz.prog 29 #[ptr b] W fun e W' => e = .returned (.bool (fi L q x.id)) ∧ Grow W W' := by
  obtain ⟨b0, hb0, hP⟩ := h.nds x hx
  obtain rfl : b = b0 := by rw [hb] at hb0; injection hb0
  obtain ⟨x4, -, -, x7, -⟩ := hP.cells
  have HX := hide (show fi L q x.id = (x.fin && !q x.id) by unfold fi; rw [L10.fnB_nd hs hx])
  clear h hP hb hb0 hs hx
  generalize x.fin = fn at *
  generalize q x.id = qx at *
  cases fn <;> cases qx <;>
  (go_enter Tryz.func29, Tryz.ntmps29
   go_wp2
   go_ret
   rw [HX.out]
   exact ⟨rfl, Chg.refl _ _⟩)
set_option maxRecDepth 100000 in
theorem run2_any (h : Sn w W s p m f ia ic cs L q c wv wq) (hx : x ∈ L) (hb : f x.id = some b) :
    Calls Tryz.prog 30 #[ptr b] W fun e W' => e = .returned (.bool (q x.id)) ∧ Grow W W' := by
  obtain ⟨b0, hb0, hP⟩ := h.nds x hx
  obtain rfl : b = b0 := by rw [hb] at hb0; injection hb0
  obtain ⟨-, -, -, x7, -⟩ := hP.cells
  clear h hP hb hb0 hx
  go_enter Tryz.func30, Tryz.ntmps30
  go_wp2
  go_ret
  exact ⟨rfl, Chg.refl _ _⟩
/-- Is a node to be cleared? -/
def toC (cs : List Cl) (L : List Nd) (q c : Int → Bool) (ks : List Int) (i : Int) : Bool := los cs L q i && (!c i && ks.contains (aimX cs L i).2)
set_option maxRecDepth 100000 in
set_option maxHeartbeats 1000000 in
theorem clear1_any {b2 b3 n cc : Nat} {a : Option Addr} {ks : List Int} (h : Sn w W s p m f ia ic cs L q c wv wq) (hok : ∀ x ∈ L, x.Ok cs) (hx : x ∈ L) (hb : f x.id = some b) (h2 : W.cell? ⟨b2, 0, none⟩ = some (ptr s)) (h3 : W.cell? ⟨b3, 0, none⟩ = some (.slice a n cc)) (hr : L1.Rd W a n ks) (hn : n ≤ 1000) :
    Calls Tryz.prog 55 #[ptr b, ptr b2, ptr b3] W fun e W' => e = .returned (.bool (toC cs L q c ks x.id)) ∧ Grow W W' := by
  have HLO := hide (fun (W' : World) (g : Grow W W') => loses_any (h.grow g) hok hx hb)
  obtain ⟨b0, hb0, hP⟩ := h.nds x hx
  obtain rfl : b = b0 := by rw [hb] at hb0; injection hb0
  obtain ⟨-, -, x6, -, x8, -⟩ := hP.cells
  obtain ⟨k, hk⟩ : ∃ k, (aimX cs L x.id).2 = k := ⟨_, rfl⟩
  have HX := hide (show toC cs L q c ks x.id = (los cs L q x.id && (!c x.id && ks.contains k)) by unfold toC; rw [hk])
  have HCO := hide (fun (W' : World) (g : Grow W W') => contains_any (cc := cc) k (L9.L1.Rd.chg hr g fun _ _ => id) hn)
  rw [hk] at x6
  clear h hok hx hb hb0 hP hr hn hk
  generalize los cs L q x.id = lo at *
  generalize c x.id = cx at *
  generalize ks.contains k = ck at *
  cases lo <;> cases cx <;>
  (go_enter Tryz.func55, Tryz.ntmps55
   go_wp2_with fail
   refine wp_region_grow (by kernel_rfl) (by kernel_rfl) ?_
   repeat (
     with_reducible refine wpQuiet_step ?_
     intro K hK
     first
       | ((with_reducible refine quiet_offT rfl ?_ (hK _ ?_)); focus (refine ⟨_, rfl, ?_⟩; with_reducible rfl))
       | ((with_reducible refine quiet_offF rfl ?_ (hK _ ?_)); focus (refine ⟨_, rfl, ?_⟩; with_reducible rfl))
       | ((with_reducible refine quiet_offN rfl ?_ (hK _ ?_)); focus (exact rfl))
       | ((first | with_reducible refine quiet_free rfl ?_ | ((with_reducible refine quiet_on rfl ?_ ?_); focus (refine ⟨_, rfl, ?_⟩; with_reducible rfl)))
          apply Exists.intro
          refine ⟨fun Wq hW => ?_, hK _ ?_⟩
          focus (have q0 := Grow.cell hW h2; have q1 := Grow.cell hW h3; have q2 := Grow.cell hW x6; have q3 := Grow.cell hW x8; go_simp; first | done | with_reducible rfl | (go_at_call 54; (first | with_reducible exact grown_call hW (HLO.out _ hW) | with_reducible exact grown_same hW (HLO.out _ hW))) | (go_at_call 56; (first | with_reducible exact grown_call hW ((HCO.out _ hW)) | with_reducible exact grown_same hW ((HCO.out _ hW))))))
     clear hK K
     simp only [Act.put, List.setIfInBounds_toArray, List.set_cons_zero, List.set_cons_succ])
   with_reducible refine wpQuiet_nil ?_
   intro w9 c9
   go_wp2
   go_ret
   rw [HX.out]
   exact ⟨by simp, c9⟩)
end
end Go.Proofs.YtjfpjnhlnoiekaaGreat.L13
