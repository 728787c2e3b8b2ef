/- The plain graph: Aim, Holds, Ids, Words. Conditions: fewer than 1000000 nodes and classes; the classes can be. -/
import Derived.Test.YtcinielgigdhmaaL9Ref
namespace Go.Proofs.Ytcinielgigdhmaa.L9
open Go.ChangeShapes Go.WideShapes Go.ChangeAt Go.RowKit
open Go.Proofs.Ytcinielgigdhmaa.L5 (Cl clAt IsCls newX isRf rtB shX shR shD)
set_option linter.unusedVariables false
theorem kind_lt {K R D : Int} {f : Bool} (h : rtB K R D f = true) : decide (K < 3) = !isRf K := by
  cases hr : isRf K with
  | true =>
    unfold isRf at hr
    simp at hr ⊢
    omega
  | false =>
    unfold rtB at h
    rw [hr] at h
    simp only [Bool.false_eq_true, if_false] at h
    by_cases h1 : K = 1
    · subst h1; rfl
    · rw [if_neg h1] at h
      by_cases h2 : K = 2
      · subst h2; rfl
      · rw [if_neg h2] at h
        simp at h
section
variable {w w' : World} {z q : Nat} {T : Nat → Prop} {cv : Value} {L : List Nd} {x : Nd} {i : Int} {cs : List Cl} {a : Option Addr} {len cap : Nat}
set_option maxRecDepth 100000 in
set_option maxHeartbeats 1000000 in
theorem aim_r (h : RG w z T q (.slice a len cap) L) (hc : IsCls w a len cap cs) (ho : Lok cs L) (hall : cs.all Cl.rt = true) (hl : L.length < 1000000) (hcap : len < 1000000) :
    Calls Try.prog 45 #[ptr q, .int .i64 i] w fun e w' => e = .returned (.tuple #[.int .i64 (aimX cs L i).1, .int .i64 (aimX cs L i).2]) ∧ Grow w w' := by
  have H := hide h
  cases hn : nd L i with
  | none =>
    have HX := hide (show aimX cs L i = (0, 0) by unfold aimX; rw [hn])
    have HA := hide (at_no h hn hl)
    clear h hc ho hall hl hcap hn
    go_enter Try.func45, Try.ntmps45
    go_wp2_with fail
    refine HA.out.mono ?_
    rintro e w1 ⟨rfl, rfl⟩
    go_wp2
    go_returns
    rw [HX.out]
    exact ⟨rfl, Chg.refl _ _⟩
  | some x =>
    obtain ⟨k, hk, hkl⟩ := nd_at hn
    obtain ⟨hx, rfl⟩ := nd_some hn
    obtain ⟨c, hcl, hcp⟩ := (ho.2 x hx).cl
    have hkt := kind_lt (L5.clAt_rt hall hcl)
    have HX := hide (show aimX cs L x.id = if isRf c.k then (x.refs.getD 0 0, c.k) else (0, 0) by unfold aimX; rw [hn]; simp only [hcl, kd])
    have HA := hide (at_yes h ho.1 hk hl)
    have HKI := hide (fun (W : World) (g : Grow w W) => kind_r (h.grow g) (hc.chg g fun _ _ => id) hk hcl hl hcap)
    generalize isRf c.k = rr at *
    have HCP := hide hcp
    have HK := hide hk
    have q0 : decide ((k : Int) < 0) = false := decide_eq_false (by omega)
    clear h hc ho hall hcap hn hcl hx hcp hk
    cases rr with
    | false =>
      have q1 : decide (c.k < 3) = true := hkt
      clear hkt
      go_enter Try.func45, Try.ntmps45
      go_wp2_with fail
      refine HA.out.mono ?_
      rintro e w1 ⟨rfl, rfl⟩
      go_wp2_with fail
      refine (HKI.out _ (Chg.refl _ _)).mono ?_
      rintro e w2 ⟨rfl, c2⟩
      go_wp2
      go_returns
      rw [HX.out]
      exact ⟨rfl, c2⟩
    | true =>
      have q1 : decide (c.k < 3) = false := hkt
      clear hkt
      have hpos := HCP.out rfl
      obtain ⟨v, r, d, ow, hf⟩ := H.out
      obtain ⟨g, vc, rfl, -, -, -, -, -, x2, -⟩ := hf.at_ HK.out
      have hbr := (hf.nds x (List.mem_of_getElem? HK.out)).1.1
      have y0 : w.cell? ⟨r x.id, 0, none⟩ = some (.int .i64 (x.refs.getD 0 0)) := (hbr.cell 0).trans (ints_get _ _ hpos)
      have c1 := hf.cell1
      obtain ⟨n, hn⟩ : ∃ n, L.length = n := ⟨_, rfl⟩
      obtain ⟨m, hm⟩ : ∃ m, x.refs.length = m := ⟨_, rfl⟩
      obtain ⟨u, hu⟩ : ∃ u, x.refs.getD 0 0 = u := ⟨_, rfl⟩
      rw [hu] at HX y0
      rw [hn] at c1 hkl
      rw [hm] at x2 hpos
      have q2 : decide ((k : Int) < (n : Int)) = true := decide_eq_true (by omega)
      have q3 : decide ((0 : Int) < (m : Int)) = true := decide_eq_true (by omega)
      generalize r x.id = rb at *
      clear hf hbr hn hm hu hl
      go_enter Try.func45, Try.ntmps45
      go_wp2_with fail
      refine HA.out.mono ?_
      rintro e w1 ⟨rfl, rfl⟩
      go_wp2_with fail
      refine (HKI.out _ (Chg.refl _ _)).mono ?_
      rintro e w2 ⟨rfl, c2⟩
      replace c1 := Grow.cell c2 c1
      replace x2 := Grow.cell c2 x2
      replace y0 := Grow.cell c2 y0
      go_wp2_with fail
      refine wp_region_grow (by kernel_rfl) (by kernel_rfl) ?_
      repeat (
        with_reducible refine wpQuiet_step ?_
        intro K hK
        first
          | ((with_reducible refine quiet_offT rfl ?_ (hK _ ?_)); focus (refine ⟨_, rfl, ?_⟩; with_reducible rfl))
          | ((with_reducible refine quiet_offF rfl ?_ (hK _ ?_)); focus (refine ⟨_, rfl, ?_⟩; with_reducible rfl))
          | ((with_reducible refine quiet_offN rfl ?_ (hK _ ?_)); focus (exact rfl))
          | ((first | with_reducible refine quiet_free rfl ?_ | ((with_reducible refine quiet_on rfl ?_ ?_); focus (refine ⟨_, rfl, ?_⟩; with_reducible rfl)))
             apply Exists.intro
             refine ⟨fun Wq hW => ?_, hK _ ?_⟩
             focus (have q0 := Grow.cell hW c1; have q1 := Grow.cell hW x2; have q2 := Grow.cell hW y0; go_simp; first | done | with_reducible rfl | (go_at_call 55; (first | with_reducible exact grown_call hW (HKI.out _ (c2.trans hW)) | with_reducible exact grown_same hW (HKI.out _ (c2.trans hW))))))
        clear hK K
        simp only [Act.put, List.setIfInBounds_toArray, List.set_cons_zero, List.set_cons_succ])
      with_reducible refine wpQuiet_nil ?_
      intro w5 c5
      go_wp2
      go_returns
      rw [HX.out]
      exact ⟨rfl, c2.trans c5⟩
set_option maxRecDepth 100000 in
set_option maxHeartbeats 1000000 in
theorem ids_r (h : RG w z T q cv L) (hl : L.length < 1000000) :
    Calls Try.prog 27 #[ptr q] w fun e w' => ∃ a cap, e = .returned (.slice a L.length cap) ∧ w'.ownsRow w.heap.size 3 1 (.slice a L.length cap) L.length (ints (L.map Nd.id)) ∧ Grow w w' := by
  obtain ⟨v, r, d, ow, h⟩ := h
  obtain ⟨va, vc, rfl⟩ := h.val
  have H := hide h
  have c1 := h.cell1
  obtain ⟨n, hn⟩ : ∃ n, L.length = n := ⟨_, rfl⟩
  rw [hn] at c1 hl
  have HN := hide hn
  have HL := hide hl
  obtain ⟨i0, hi0, hz0, hz1, hz2⟩ := info_parts Try.infoI
  have HI := hide hi0
  have HZ0 := hide hz0
  have HZ1 := hide hz1
  have HZ2 := hide hz2
  clear h hl hn hi0 hz0 hz1 hz2
  go_enter Try.func27, Try.ntmps27
  go_wp2_with fail
  go_loopw [3, 10] (fun u c wr => ∃ k : Nat, k ≤ n ∧ c = .int .i64 k ∧ wr.ownsRow w.heap.size 3 1 u k (ints ((L.map Nd.id).take k)) ∧ Grow w wr) (fun _ c _ => n - (Go.RowKit.intOf c).toNat)
  case atStart => exact ⟨0, Nat.zero_le _, rfl, World.ownsRow_nil _ _ _ _, Chg.refl _ _⟩
  case round =>
    obtain ⟨k, hk, rfl, hown, cw⟩ := hrel
    rcases Nat.eq_or_lt_of_le hk with hke | hlt
    · have hke' : n = k := hke.symm
      subst hke'
      have q1 : decide ((n : Int) < (n : Int)) = false := by simp
      replace c1 := Grow.cell cw c1
      rw [show (L.map Nd.id).take n = L.map Nd.id by rw [List.take_of_length_le (by rw [List.length_map, HN.out]; exact Nat.le_refl _)]] at hown
      obtain ⟨ua, uc, rfl⟩ := own_len hown
      have HO := hide hown
      clear hk hke hown
      go_wp2
      go_ret
      rw [HN.out]
      exact ⟨_, _, rfl, HO.out, cw⟩
    · have q1 : decide ((k : Int) < (n : Int)) = true := decide_eq_true (by omega)
      obtain ⟨y, hy⟩ : ∃ y, L[k]? = some y := ⟨_, List.getElem?_eq_getElem (by rw [HN.out]; exact hlt)⟩
      obtain ⟨g, rfl, -, -, -, x0, -⟩ := (H.out.chg cw fun _ _ => id).at2 hy
      have c2 := Grow.cell cw c1
      have hw : IntKind.i64.wrap ((k : Int) + 1) = ((k + 1 : Nat) : Int) := (IntWalk.i64_in _ (by have := HL.out; omega)).trans (by omega)
      have HLT := hide hlt
      have HS := hide (show (L.map Nd.id).take (k + 1) = (L.map Nd.id).take k ++ [y.id] by rw [List.take_add_one, List.getElem?_map, hy]; rfl)
      obtain ⟨xs, hxs⟩ : ∃ xs, xs = (L.map Nd.id).take k := ⟨_, rfl⟩
      rw [← hxs] at hown HS
      generalize y.id = u at *
      have HO := hide (hown.alloc (.cells [.int .i64 u].toArray 3))
      have HBK := hide (Blk.new wr 3 [.int .i64 u])
      have HC := hide (cw.alloc (.cells [.int .i64 u].toArray 3))
      have HBL := hide cw.size
      clear hy hk hown hxs cw
      go_wp2_with (at_builtin; refine wpList_append_own _ rfl _ _ 37 rfl w.heap.size 3 i0 (.int .i64 0) 1 8 Try.underlying37 HI.out HZ0.out HZ1.out HZ2.out rfl (by decide) _ _ _ rfl HO.out ⟨wr.heap.size, 0, none⟩ 1 1 [.int .i64 u] rfl rfl (fun j u hj => by rw [addr_add, Nat.zero_add, HBK.out.cell]; exact hj) (fun u hu => by simp at hu; subst hu; rfl) (by have := HL.out; have := HLT.out; unfold maxLen; omega) (by have := HL.out; have := HLT.out; omega) (by rw [World.size_alloc]; have := HBL.out; omega) ?_)
      intro v' w6 hown3 hgrow _
      have cc := Chg.grownOwn HC.out HO.out (Nat.le_refl _) hgrow
      have HO3 := hide hown3
      clear hgrow hown3 HC HO HBK x0 c2 q1
      go_wp2
      go_roundw
      case rel =>
        refine ⟨k + 1, HLT.out, rfl, ?_, cc⟩
        rw [HS.out]
        have := HO3.out
        simpa [ints] using this
      case measure => have := HLT.out; simp [Go.RowKit.intOf]; omega
theorem wos_take {k : Nat} (hk : L[k]? = some x) : wos (L.take (k + 1)) = wos (L.take k) + x.wo := by
  unfold wos
  rw [List.take_add_one, hk, List.map_append, List.sum_append]
  simp
set_option maxRecDepth 100000 in
set_option maxHeartbeats 1000000 in
theorem words_r (h : RG w z T q cv L) (ho : Lok cs L) (hl : L.length < 1000000) :
    Calls Try.prog 29 #[ptr q] w fun e w' => e = .returned (.int .i64 (wos L)) ∧ Grow w w' := by
  obtain ⟨v, r, d, ow, h⟩ := h
  obtain ⟨va, vc, rfl⟩ := h.val
  have H := hide h
  have HOK := hide ho
  have c1 := h.cell1
  obtain ⟨n, hn⟩ : ∃ n, L.length = n := ⟨_, rfl⟩
  rw [hn] at c1 hl
  have HN := hide hn
  have HL := hide hl
  clear h hl hn ho
  go_enter Try.func29, Try.ntmps29
  go_wp2_with fail
  go_loopw [3, 10] (fun u c wr => ∃ k : Nat, k ≤ n ∧ c = .int .i64 k ∧ u = .int .i64 (wos (L.take k)) ∧ Grow w wr) (fun _ c _ => n - (Go.RowKit.intOf c).toNat)
  case atStart => exact ⟨0, Nat.zero_le _, rfl, rfl, Chg.refl _ _⟩
  case round =>
    obtain ⟨k, hk, rfl, rfl, cw⟩ := hrel
    rcases Nat.eq_or_lt_of_le hk with hke | hlt
    · have hke' : n = k := hke.symm
      subst hke'
      have q1 : decide ((n : Int) < (n : Int)) = false := by simp
      have HT := hide (show L.take n = L by rw [List.take_of_length_le (by rw [HN.out]; exact Nat.le_refl _)])
      rw [HT.out]
      clear hk hke
      go_wp2
      go_ret
      exact ⟨rfl, cw⟩
    · have q1 : decide ((k : Int) < (n : Int)) = true := decide_eq_true (by omega)
      obtain ⟨y, hy⟩ : ∃ y, L[k]? = some y := ⟨_, List.getElem?_eq_getElem (by rw [HN.out]; exact hlt)⟩
      obtain ⟨g, rfl, -, -, -, x0, -, x2, x3, -⟩ := (H.out.chg cw fun _ _ => id).at2 hy
      have c2 := Grow.cell cw c1
      have hok := HOK.out.2 y (List.mem_of_getElem? hy)
      have hbd := wos_le (cs := cs) (L := L.take k) fun x hx => HOK.out.2 x (List.mem_of_mem_take hx)
      have hst := wos_take hy
      have hrl := hok.rl
      have hdl := hok.dl
      rw [show y.wo = 2 + y.refs.length + y.data.length from rfl] at hst
      obtain ⟨n1, h1⟩ : ∃ n1, y.refs.length = n1 := ⟨_, rfl⟩
      obtain ⟨m1, h2⟩ : ∃ m1, y.data.length = m1 := ⟨_, rfl⟩
      rw [h1] at hst hrl x2
      rw [h2] at hst hdl x3
      have hkk : (L.take k).length ≤ k := by simp; omega
      have HLT := hide hlt
      have hL2 := HL.out
      generalize wos (L.take k) = N at *
      generalize r y.id = rb at *
      generalize d y.id = db at *
      obtain ⟨A, hA⟩ : ∃ A : Int, A = (N : Int) + 2 := ⟨_, rfl⟩
      obtain ⟨B, hB⟩ : ∃ B : Int, B = A + (n1 : Int) := ⟨_, rfl⟩
      obtain ⟨C, hC⟩ : ∃ C : Int, C = B + (m1 : Int) := ⟨_, rfl⟩
      have s1 : IntKind.i64.wrap ((N : Int) + 2) = A := (IntWalk.i64_in _ (by omega)).trans (by omega)
      have s2 : IntKind.i64.wrap (A + (n1 : Int)) = B := (IntWalk.i64_in _ (by omega)).trans (by omega)
      have s3 : IntKind.i64.wrap (B + (m1 : Int)) = C := (IntWalk.i64_in _ (by omega)).trans (by omega)
      have HC := hide (show C = (wos (L.take (k + 1)) : Int) by rw [hst]; omega)
      have hw : IntKind.i64.wrap ((k : Int) + 1) = ((k + 1 : Nat) : Int) := (IntWalk.i64_in _ (by omega)).trans (by omega)
      clear hy hok hbd hst hrl hdl h1 h2 hkk hL2 hA hB hC hk hlt x0
      go_wp2_with fail
      refine wp_region_grow (by kernel_rfl) (by kernel_rfl) ?_
      repeat (
        with_reducible refine wpQuiet_step ?_
        intro K hK
        first
          | ((with_reducible refine quiet_offT rfl ?_ (hK _ ?_)); focus (refine ⟨_, rfl, ?_⟩; with_reducible rfl))
          | ((with_reducible refine quiet_offF rfl ?_ (hK _ ?_)); focus (refine ⟨_, rfl, ?_⟩; with_reducible rfl))
          | ((with_reducible refine quiet_offN rfl ?_ (hK _ ?_)); focus (exact rfl))
          | ((first | with_reducible refine quiet_free rfl ?_ | ((with_reducible refine quiet_on rfl ?_ ?_); focus (refine ⟨_, rfl, ?_⟩; with_reducible rfl)))
             apply Exists.intro
             refine ⟨fun Wq hW => ?_, hK _ ?_⟩
             focus (have q0 := Grow.cell hW c2; have q1 := Grow.cell hW x2; have q2 := Grow.cell hW x3; go_simp; first | done | with_reducible rfl))
        clear hK K
        simp only [Act.put, List.setIfInBounds_toArray, List.set_cons_zero, List.set_cons_succ])
      with_reducible refine wpQuiet_nil ?_
      intro w5 c5
      have g5 := cw.trans c5
      clear s1 s2 s3 c5 c2 x2 x3 q1
      go_wp2
      go_roundw
      case rel => exact ⟨k + 1, HLT.out, rfl, by rw [HC.out], g5⟩
      case measure => have := HLT.out; simp [Go.RowKit.intOf]; omega
end
end Go.Proofs.Ytcinielgigdhmaa.L9
