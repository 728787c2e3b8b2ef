/- For all arguments MarkOdd answers true: roots and edges that are no places are passed over. Conditions: the table of math/bits.TrailingZeros64 is as the program's text lays it, which the card ties. -/
import Derived.Test.YtaddomgjjemglaaDoorL14F
import Derived.Test.YtaddomgjjemglaaDoorL14A
import Derived.Test.YtaddomgjjemglaaDoorCards
import Derived.Test.YtaddomgjjemglaaDoorTie
import Derived.SevenTiedAt
import Derived.Stop.Joined
import Derived.ShutString
namespace Go.Proofs.YtaddomgjjemglaaDoor.markOdd
open Go.ChangeShapes Go.WideShapes Go.ChangeAt Go.RowKit Go.Proofs.YtaddomgjjemglaaDoor.L14
open Go.Proofs.YtaddomgjjemglaaDoor.L3 (Ms Tab ms_set ms_len ms_has ms_next ms_count ms_new clamp ptr exB exB_in exB_out exB_nat setI cnt cnt_le cnt_congr cnt_on cnt_none upd upd_at upd_ne hasI has_is count_is nx nx_cases tab_of_laid)
set_option linter.unusedVariables false

/-- A number that is no place. -/
def od (n : Nat) (x : Int) : Int := if 0 ≤ x ∧ x < n then x + n else x
theorem od_out (n : Nat) (x : Int) : exB n (od n x) = false := by
  refine exB_out ?_
  unfold od
  split <;> omega
theorem none_reached {n : Nat} {E : Nat → List Int} {zs : List Int} {S : Nat → Bool} (hz : ∀ x ∈ zs, exB n x = false) (h : ∀ j, S j = true ↔ Rch n E zs j) : S = fun _ => false := by
  have h2 : ∀ j, ¬ Rch n E zs j := fun j hj => by
    induction hj with
    | st h1 h2 => have := hz _ h1; rw [exB_in h2] at this; cases this
    | go _ _ _ ih => exact ih
  funext j
  cases hs : S j with
  | false => rfl
  | true => exact absurd ((h j).1 hs) (h2 j)
theorem one_reached {n : Nat} {zs : List Int} {S : Nat → Bool} (hz : ∀ x ∈ zs, exB n x = false) (h : ∀ j, S j = true ↔ Rch n (fun _ => zs) [0] j) : cnt S n = min n 1 := by
  have h2 : ∀ j, Rch n (fun _ => zs) [0] j → j = 0 := fun j hj => by
    induction hj with
    | st h1 h2 => have := List.mem_singleton.1 h1; omega
    | go _ h1 h2 _ => have := hz _ h1; rw [exB_in h2] at this; cases this
  cases n with
  | zero => rfl
  | succ n =>
    have h0 : S 0 = true := (h 0).2 (.st (by simp) (by omega))
    have : cnt S (n + 1) = cnt (fun _ => false) (n + 1) + 1 := cnt_on (S := fun _ => false) (i := 0) (by omega) rfl h0 fun j hj => by
      cases hs : S j with
      | false => rfl
      | true => exact absurd (h2 j ((h j).1 hs)) hj
    rw [this, cnt_none fun _ _ => rfl]
    omega
theorem cnt_no (n : Nat) : cnt (fun _ => false) n = 0 := cnt_none fun _ _ => rfl
section
variable {w W : World} {b q c j : Nat} {a : Option Addr} {xs : List Int}
theorem cls_zero (W : World) (j : Nat) : Calls Tryd.prog 22 (#[.int .i64 j] ++ #[]) W fun e W' => ∃ a c, e = .returned (.slice a ([0] : List Int).length c) ∧ L1.Rd W' a ([0] : List Int).length [0] ∧ (0 < ([0] : List Int).length → ∀ x : Addr, a = some x → x.block < w.heap.size ∨ W.heap.size ≤ x.block) ∧ Grow W W' := by
  show Calls Tryd.prog 22 #[.int .i64 j] W _
  go_enter Tryd.func22, Tryd.ntmps22
  go_wp2
  go_returns
  exact ⟨_, _, rfl, rd_one W 0, fun _ x e => by injection e with e; subst e; exact .inr (Nat.le_refl _), Grow.box _ _⟩
theorem cls_out (hb : W.cell? ⟨b, 0, none⟩ = some (.slice a q c)) (hr : L1.Rd W a q xs) (hlt : 0 < q → ∀ x : Addr, a = some x → x.block < w.heap.size) (j : Nat) :
    Calls Tryd.prog 23 (#[.int .i64 j] ++ #[ptr b]) W fun e W' => ∃ a c, e = .returned (.slice a xs.length c) ∧ L1.Rd W' a xs.length xs ∧ (0 < xs.length → ∀ x : Addr, a = some x → x.block < w.heap.size ∨ W.heap.size ≤ x.block) ∧ Grow W W' := by
  obtain rfl : xs.length = q := hr.1
  have HR := hide hr
  have HL := hide hlt
  clear hr hlt
  show Calls Tryd.prog 23 #[.int .i64 j, ptr b] W _
  generalize xs.length = q at *
  go_enter Tryd.func23, Tryd.ntmps23
  go_wp2
  go_returns
  exact ⟨_, _, rfl, HR.out, fun h x e => .inl (HL.out h x e), Chg.refl _ _⟩
theorem cls_outb (hb : W.cell? ⟨b, 0, none⟩ = some (.slice a q c)) (hr : L1.Rd W a q xs) (hlt : 0 < q → ∀ x : Addr, a = some x → x.block < w.heap.size) (j : Nat) :
    Calls Tryd.prog 24 (#[.int .i64 j] ++ #[ptr b]) W fun e W' => ∃ a c, e = .returned (.slice a xs.length c) ∧ L1.Rd W' a xs.length xs ∧ (0 < xs.length → ∀ x : Addr, a = some x → x.block < w.heap.size ∨ W.heap.size ≤ x.block) ∧ Grow W W' := by
  obtain rfl : xs.length = q := hr.1
  have HR := hide hr
  have HL := hide hlt
  clear hr hlt
  show Calls Tryd.prog 24 #[.int .i64 j, ptr b] W _
  generalize xs.length = q at *
  go_enter Tryd.func24, Tryd.ntmps24
  go_wp2
  go_returns
  exact ⟨_, _, rfl, HR.out, fun h x e => .inl (HL.out h x e), Chg.refl _ _⟩
end
theorem mins {A : Nat} (h : A ≤ 255) : IntKind.i64.wrap (A : Int) = (A : Int) := IntWalk.i64_in _ (by omega)
theorem sums {A : Nat} {x : Int} (h : A ≤ 255) (h0 : 0 ≤ x) (h1 : x < A) : IntKind.i64.wrap (x + (A : Int)) = x + A ∧ wrap64 (x + (A : Int)) = x + A := ⟨IntWalk.i64_in _ (by omega), wrap64_id _ (by omega)⟩
theorem incs {j : Nat} (h : j ≤ 100) : IntKind.i64.wrap ((j : Int) + 1) = ((j + 1 : Nat) : Int) := (IntWalk.i64_in _ (by omega)).trans (by omega)
theorem od_take {n j : Nat} {zs : List Int} (hj : j < zs.length) {x y : Int} (hx : zs.getD j 0 = x) (hy : od n x = y) : (zs.take (j + 1)).map (od n) = (zs.take j).map (od n) ++ [y] := by
  rw [List.take_add_one, List.getElem?_eq_getElem hj, List.map_append]
  rw [List.getD_eq_getElem?_getD, List.getElem?_eq_getElem hj] at hx
  have hx' : zs[j] = x := hx
  simp [hx', hy]
/-- What stands between two appends. -/
structure Ob (w W : World) (ob : Nat) (va : Option Addr) (q vc : Nat) (ys : List Int) : Prop where
  blk : Blk W ob 23 [.slice va q vc]
  ol : OL W w.heap.size (.slice va q vc) ys
  ln : ys.length = q
  gw : Grow w W
  ge : w.heap.size ≤ ob
theorem Ob.rd {w W : World} {ob q vc : Nat} {va : Option Addr} {ys : List Int} (h : Ob w W ob va q vc ys) : L1.Rd W va q ys := by
  have h1 := h.ol
  unfold OL at h1
  rw [h.ln] at h1
  exact own_rd h1
theorem Ob.step {w W : World} {ob q vc : Nat} {va : Option Addr} {ys : List Int} (h : Ob w W ob va q vc ys) (hl : q ≤ 1000000) (x : Int) :
    ∃ a' c' W', (Builtin.append_ #[23, 23] 23 #[.slice va q vc, .slice (some ⟨W.heap.size, 0, none⟩) 1 1]).run Tryd.prog (W.alloc (.cells #[.int .i64 x] 3)) = .ok (.slice a' (q + 1) c') W' ∧
      W'.cell? ⟨ob, 0, none⟩ = some (.slice va q vc) ∧ W'.frozen? ⟨ob, 0, none⟩ = false ∧ Ob w (W'.setCell ⟨ob, 0, none⟩ (.slice a' (q + 1) c')) ob a' (q + 1) c' (ys ++ [x]) := by
  obtain ⟨a', c', W', h1, h2, h3, h4⟩ := app_new h.gw h.ol h.ln hl x
  have hb : Blk W' ob 23 [.slice va q vc] := h.blk.chg h4 (h.ol.ne h.blk (by decide))
  have hn : (Value.slice a' (q + 1) c').ownBlock ≠ some ob := h2.ne hb (by decide)
  refine ⟨a', c', W', h1, hb.cell 0, hb.frozen 0, hb.set_ 0 _, h2.chg ((Chg.refl (· = ob) W').set1 0 _) (fun k hk e => hn (by rw [hk, e])), by rw [List.length_append, h.ln]; rfl, h3.setCell (fun hlt => absurd hlt (Nat.not_lt.2 h.ge)) _, h.ge⟩
set_option maxRecDepth 100000 in
set_option maxHeartbeats 2000000 in
theorem walk (places : Int) (a : Option Addr) (k cap : Nat) (zs : List Int) (room : Int) (w : World) (ht : Tab w) (w0 : (Lit.int .u8 places).wf = true) (hz : IsRow .i64 w a k cap zs) (w2 : (Lit.int .i64 room).wf = true) :
    Calls Tryd.prog 8 #[.int .u8 places, .slice a k cap, .int .i64 room] w fun e w' => e = .returned (.bool true) ∧ Below w.heap.size w w' := by
  have b0 := bounds_u8 w0
  obtain ⟨A, rfl⟩ := Int.eq_ofNat_of_zero_le b0.1
  have HT := hide ht
  have HA := hide (show A ≤ 255 by omega)
  have HZ := hide (rd_row hz)
  by_cases hk : 100 < k
  · have q0 : decide ((k : Int) > 100) = true := decide_eq_true (by omega)
    clear ht hz w0 w2 b0 hk HA HZ
    go_enter Tryd.func8, Tryd.ntmps8
    go_wp2_with fail
    refine (awake_any HT.out).mono ?_
    rintro e wa ⟨rfl, ca⟩
    have HTA := hide (HT.out.chg ca id)
    have HCA := hide ca
    clear ca
    go_wp2_with fail
    refine (awake_any HTA.out).mono ?_
    rintro e wc ⟨rfl, cc⟩
    go_wp2
    go_returns
    exact ⟨rfl, (HCA.out.trans cc).under⟩
  · have q0 : decide ((k : Int) > 100) = false := decide_eq_false (by omega)
    have HK := hide (show k ≤ 100 by omega)
    obtain ⟨r, hr⟩ : ∃ r : Nat, max room 1 = (r : Int) := ⟨(max room 1).toNat, by omega⟩
    have HR := hide (show max room 1 = (r : Int) ∧ 1 ≤ r from ⟨hr, by omega⟩)
    have HLE := hide (show ∀ j q : Nat, j < k → q = j → q ≤ 1000000 from fun j q h e => by omega)
    have hwA := mins HA.out
    clear ht hz w0 w2 b0 hk hr
    go_enter Tryd.func8, Tryd.ntmps8
    go_wp2_with fail
    refine (awake_any HT.out).mono ?_
    rintro e wa ⟨rfl, ca⟩
    have HTA := hide (HT.out.chg ca id)
    have HCA := hide ca
    clear ca
    have hb := Blk.new wa 23 [.slice none 0 0]
    have gB := Grow.box wa (.cells [.slice none 0 0].toArray 23)
    have HOB := hide (show Ob wa (wa.alloc (.cells [.slice none 0 0].toArray 23)) wa.heap.size none 0 0 [] from ⟨hb, ol_nil _ _, rfl, gB, Nat.le_refl _⟩)
    clear hb gB
    go_wp2_with fail
    clear hwA
    rw [show wa.alloc (.cells [.slice none 0 0].toArray 23) = wa.alloc (.cells #[.slice none 0 0] 23) from rfl] at HOB
    generalize wa.alloc (.cells #[.slice none 0 0] 23) = w1 at *
    generalize wa.heap.size = ob at *
    go_loopw [29] (fun v wr => ∃ (j : Nat) (va : Option Addr) (q vc : Nat), j ≤ k ∧ v = .int .i64 j ∧ Ob wa wr ob va q vc ((zs.take j).map (od A))) (fun v _ => k - (Go.RowKit.intOf v).toNat)
    case atStart => exact ⟨0, none, 0, 0, Nat.zero_le _, rfl, HOB.out⟩
    case round =>
      clear HOB
      obtain ⟨j, va, q, vc, hj, rfl, hob⟩ := hrel
      rcases Nat.eq_or_lt_of_le hj with hje | hlt
      · have hje2 := hje.symm
        subst hje2
        clear hje
        have q1 : decide ((k : Int) < k) = false := by simp
        have hq : q = k := by have h1 := hob.ln; rw [List.length_map, List.length_take, HZ.out.1] at h1; omega
        have hob' := hob
        rw [← HZ.out.1, List.take_length] at hob'
        have hz : ∀ x ∈ zs.map (od A), exB A x = false := fun x hx => by
          obtain ⟨y, _, rfl⟩ := List.mem_map.1 hx
          exact od_out A y
        have hbc := hob'.blk.cell 0
        have HOB := hide hob'
        have HZZ := hide hz
        have HQ := hide (show q ≤ 1000000 by have := HK.out; omega)
        have HCN := hide (show clamp (A : Int) = A by unfold clamp; have := HA.out; omega)
        obtain ⟨M, hM⟩ : ∃ M : Nat, min A 1 = M := ⟨_, rfl⟩
        have hmn : ∀ (ts : Array TypeId) (t : TypeId) (W : World), (Builtin.min_ ts t #[.int .i64 (A : Int), .int .i64 1]).run Tryd.prog W = .ok (.int .i64 (M : Int)) W := fun ts t W => by
          rw [run_min_int2]; congr 2; split <;> omega
        have HM := hide hM
        obtain ⟨S1, hS1⟩ := ex_rch A (fun _ => [0]) (zs.map (od A))
        obtain ⟨S2, hS2⟩ := ex_rch A (fun _ => zs.map (od A)) [0]
        obtain ⟨S3, hS3⟩ := ex_rch 0 (fun _ => zs.map (od A)) zs
        have e1 := none_reached hz hS1
        have e3 : S3 = fun _ => false := by
          funext i
          cases hs : S3 i with
          | false => rfl
          | true => exact absurd ((hS3 i).1 hs).lt (by omega)
        have HE1 := hide (show cnt S1 A = 0 by rw [e1]; exact cnt_no A)
        have HE2 := hide (show cnt S2 A = M by rw [one_reached hz hS2]; exact hM)
        have HE3 := hide (show cnt S3 0 = 0 from rfl)
        have HS1 := hide hS1
        have HS2 := hide hS2
        have HS3 := hide hS3
        clear hob hob' hz hq hM hS1 hS2 hS3 e1 e3 hj
        go_wp2_with fail
        refine (reach_fun (r := r) (E := fun _ => [0]) (fid := 22) (lb := #[]) (enters_of Tryd.func22 (by kernel_rfl) rfl) (fun W j hj g => cls_zero W j) (fun _ _ => (by decide)) (HTA.out.chg HOB.out.gw id) HOB.out.rd HQ.out HS1.out HCN.out HR.out.1).mono ?_
        rintro e w4 ⟨p1, g1, rn1, rfl, hm1, hr1, c4⟩
        have hr0 : rn1 = 0 := hr1.resolve_right (by rw [HE1.out]; omega)
        subst hr0
        have gB := Grow.box w4 (.cells #[.int .i64 0] 3)
        have HM1 := hide (hm1.grow gB)
        have HC5 := hide (c4.trans gB)
        have HRD := hide (rd_one w4 0)
        clear hm1 hr1 c4 gB hbc
        go_wp2_with fail
        generalize w4.alloc (.cells #[.int .i64 0] 3) = w5 at *
        have HBC := hide (Grow.cell HC5.out (HOB.out.blk.cell 0))
        have HRO := hide (HOB.out.rd.grow HC5.out)
        refine (reach_fun (r := r) (E := fun _ => zs.map (od A)) (fid := 23) (lb := #[ptr ob]) (enters_of Tryd.func23 (by kernel_rfl) rfl) (fun W j hj g => cls_out (Grow.cell g HBC.out) (HRO.out.grow g) (fun h0 x e => by subst e; exact HRO.out.lt h0) j) (fun _ _ => by rw [List.length_map, HZ.out.1]; exact Nat.le_trans HK.out (by decide)) (HTA.out.chg (HOB.out.gw.trans HC5.out) id) HRD.out (by decide) HS2.out HCN.out HR.out.1).mono ?_
        rintro e w6 ⟨p2, g2, rn2, rfl, hm2, hr2, c6⟩
        have hr0 : rn2 = 0 := hr2.resolve_right (by rw [HE2.out]; have := HR.out.2; have := HM.out; omega)
        subst hr0
        have HM2 := hide hm2
        have HM1' := hide (HM1.out.grow c6)
        have HC6 := hide (HC5.out.trans c6)
        have HBC6 := hide (Grow.cell c6 HBC.out)
        have HRO6 := hide (HRO.out.grow c6)
        clear hm2 hr2 c6 HM1 HRD
        go_wp2_with fail
        refine (reach_fun (n := 0) (places := 0) (r := r) (E := fun _ => zs.map (od A)) (fid := 24) (lb := #[ptr ob]) (enters_of Tryd.func24 (by kernel_rfl) rfl) (fun W j hj g => cls_outb (Grow.cell g HBC6.out) (HRO6.out.grow g) (fun h0 x e => by subst e; exact HRO6.out.lt h0) j) (fun _ _ => by rw [List.length_map, HZ.out.1]; exact Nat.le_trans HK.out (by decide)) (HTA.out.chg (HOB.out.gw.trans HC6.out) id) (HZ.out.grow (HCA.out.trans (HOB.out.gw.trans HC6.out))) (Nat.le_trans HK.out (by decide)) HS3.out rfl HR.out.1).mono ?_
        rintro e w7 ⟨p3, g3, rn3, rfl, hm3, hr3, c7⟩
        have hr0 : rn3 = 0 := hr3.resolve_right (by rw [HE3.out]; omega)
        subst hr0
        have HM3 := hide hm3
        have HM1 := hide (HM1'.out.grow c7)
        have HM2' := hide (HM2.out.grow c7)
        have HC7 := hide (HCA.out.trans (HOB.out.gw.trans (HC6.out.trans c7)))
        clear hm3 hr3 c7 HM1' HM2
        go_wp2_with fail
        refine (count_is (v := 0) HM1.out (by rw [HE1.out]; rfl)).mono ?_
        rintro e w8 ⟨rfl, c8⟩
        have HM8 := hide (HM2'.out.grow c8)
        have HM9 := hide (HM3.out.grow c8)
        have HC8 := hide (HC7.out.trans c8)
        clear c8
        go_wp2_with fail
        refine (count_is (v := (M : Int)) HM8.out (by rw [HE2.out])).mono ?_
        rintro e w9 ⟨rfl, c9⟩
        have HM10 := hide (HM9.out.grow c9)
        have HC9 := hide (HC8.out.trans c9)
        clear c9
        go_wp2_with fail
        refine (ms_len HM10.out).mono ?_
        rintro e w10 ⟨rfl, rfl⟩
        go_wp2
        go_returns
        exact ⟨rfl, HC9.out.under⟩
      · have q1 : decide ((j : Int) < k) = true := decide_eq_true (by omega)
        have q2 : (j : Int) < k := by omega
        have HQ := hide (show q ≤ 1000000 by have h1 := hob.ln; rw [List.length_map, List.length_take] at h1; have := HK.out; omega)
        obtain ⟨ad, rfl, hcx⟩ := (HZ.out.grow (HCA.out.trans hob.gw)).at_ hlt
        obtain ⟨x, hx⟩ : ∃ x, zs.getD j 0 = x := ⟨_, rfl⟩
        rw [hx] at hcx
        have HX := hide hx
        have hbc := hob.blk.cell 0
        have HOB := hide hob
        have HJ := hide hlt
        have hj1 := HK.out
        by_cases hx0 : 0 ≤ x
        · have q3 : decide (x ≥ 0) = true := decide_eq_true hx0
          by_cases hxn : x < (A : Int)
          · have q4 : decide (x < (A : Int)) = true := decide_eq_true hxn
            obtain ⟨y, hy⟩ : ∃ y, od A x = y := ⟨_, rfl⟩
            have HY := hide hy
            have e2 : x + (A : Int) = y := by rw [← hy]; unfold od; rw [if_pos ⟨hx0, hxn⟩]
            have hw := incs (show j ≤ 100 by omega)
            have hs1 := (sums HA.out hx0 hxn).1.trans e2
            have hs2 := (sums HA.out hx0 hxn).2.trans e2
            clear hx hob hlt hj hy e2 hj1 hx0 hxn
            obtain ⟨a5, c5, W5, hr5, hc5, hf5, ho5⟩ := HOB.out.step HQ.out y
            have KA := hide hr5
            have HO5 := hide ho5
            have HTK := hide (od_take (n := A) (by rw [HZ.out.1]; exact HJ.out) HX.out HY.out)
            clear hr5 ho5
            go_wp2_with (at_builtin; refine wpList_app rfl _ _ 23 rfl (.slice va q vc) (.slice (some ⟨wr.heap.size, 0, none⟩) 1 1) (.slice a5 (q + 1) c5) _ W5 rfl rfl KA.out ?_)
            go_roundw
            case rel => exact ⟨j + 1, a5, q + 1, c5, HJ.out, rfl, HTK.out ▸ HO5.out⟩
            case measure => have := HJ.out; simp [Go.RowKit.intOf]; omega
          · have q4 : decide (x < (A : Int)) = false := decide_eq_false hxn
            have HY := hide (show od A x = x by unfold od; rw [if_neg (by omega)])
            have hw := incs (show j ≤ 100 by omega)
            clear hx hob hlt hj hj1 hx0 hxn
            obtain ⟨a5, c5, W5, hr5, hc5, hf5, ho5⟩ := HOB.out.step HQ.out x
            have KA := hide hr5
            have HO5 := hide ho5
            have HTK := hide (od_take (n := A) (by rw [HZ.out.1]; exact HJ.out) HX.out HY.out)
            clear hr5 ho5
            go_wp2_with (at_builtin; refine wpList_app rfl _ _ 23 rfl (.slice va q vc) (.slice (some ⟨wr.heap.size, 0, none⟩) 1 1) (.slice a5 (q + 1) c5) _ W5 rfl rfl KA.out ?_)
            go_roundw
            case rel => exact ⟨j + 1, a5, q + 1, c5, HJ.out, rfl, HTK.out ▸ HO5.out⟩
            case measure => have := HJ.out; simp [Go.RowKit.intOf]; omega
        · have q3 : decide (x ≥ 0) = false := decide_eq_false hx0
          have HY := hide (show od A x = x by unfold od; rw [if_neg (by omega)])
          have hw := incs (show j ≤ 100 by omega)
          clear hx hob hlt hj hj1 hx0
          obtain ⟨a5, c5, W5, hr5, hc5, hf5, ho5⟩ := HOB.out.step HQ.out x
          have KA := hide hr5
          have HO5 := hide ho5
          have HTK := hide (od_take (n := A) (by rw [HZ.out.1]; exact HJ.out) HX.out HY.out)
          clear hr5 ho5
          go_wp2_with (at_builtin; refine wpList_app rfl _ _ 23 rfl (.slice va q vc) (.slice (some ⟨wr.heap.size, 0, none⟩) 1 1) (.slice a5 (q + 1) c5) _ W5 rfl rfl KA.out ?_)
          go_roundw
          case rel => exact ⟨j + 1, a5, q + 1, c5, HJ.out, rfl, HTK.out ▸ HO5.out⟩
          case measure => have := HJ.out; simp [Go.RowKit.intOf]; omega

theorem own : ownKnob Tryd.prog.godebug = none := by kernel_rfl
theorem laidOut : laidOutB Tryd.prog = true := by kernel_rfl
theorem door_met (os : Os) (args : Array Value) : laidMetH Tryd.prog Rows.markOddRow.laid ((World.doorLaid Tryd.prog 400 os).forCall (fun _ _ => 0) ⟨#[], args, []⟩).memory :=
  laidMetH_of_parts3 (fuel := 8) (laidMet_of_run' 8 (by kernel_rfl) (by kernel_rfl)) (by kernel_rfl) (by kernel_rfl)

set_option maxRecDepth 100000 in
theorem lifted (os : Os) (started : os.Started) (H : Type) (enc : TypeId × Value → H) :
    ReturnsInHanded {} Tryd.checked os 8 .any (fun w args => (Rows.markOddSpec.pre enc Tryd.prog Tryd.f8 [] false w args ∧ laidMetH Tryd.prog Rows.markOddRow.laid w) ∧ sizedMet enc Tryd.prog Tryd.f8 (OpenSpec.ofChange Rows.markOddSpec) false w args) (Rows.markOddSpec.post enc Tryd.prog Tryd.f8 false true false false) := by
  refine returnsInHanded_of_change_and (C := Tryd.checked) (X := fun w _ => laidMetH Tryd.prog Rows.markOddRow.laid w) (fun _ _ _ hh h => h.of_heap hh) own started (by kernel_rfl) Tryd.func8
    (ChangeSpec.witness_shaped (enc := enc) (C := Tryd.checked) (os := os) (X := fun w _ => laidMetH Tryd.prog Rows.markOddRow.laid w) false (World.doorLaid Tryd.prog 400 os) #[.int .u8 0, .slice none 0 0, .int .i64 0] 8 rfl (World.shaped_of_RefB (by kernel_rfl) (by kernel_rfl)) (by kernel_rfl) (by kernel_rfl) (by kernel_rfl) (door_met os _)) ?_
  intro W base args ds gs before hval0 hW _ _ hL _
  have hval : ∀ (j : Nat) t v, Tryd.f8.params[j]? = some t → args[j]? = some v → Value.okWide Tryd.prog W .any base t v := hval0
  have hW' := hW
  obtain ⟨p, q, hA0, hV, rfl, hfz, hnd⟩ := hW
  have hA : DataW.TrodAll enc Tryd.prog W 0 (fun _ => true) true Tryd.f8.params.toList args.toList ds p := hA0
  rw [Tryd.params8] at hA hval
  obtain ⟨v0, vs0, d0, ds0, p0, q0, hargs, rfl, rfl, h0, r0⟩ := trodAll_cons hA
  obtain ⟨v1, vs1, d1, ds1, p1, q1, rfl, rfl, rfl, h1, r1⟩ := trodAll_cons r0
  obtain ⟨v2, vs2, d2, ds2, p2, q2, rfl, rfl, rfl, h2, r2⟩ := trodAll_cons r1
  obtain ⟨rfl, rfl, rfl⟩ := trodAll_nil r2
  obtain rfl : args = #[v0, v1, v2] := by cases args; simp_all
  obtain ⟨rfl, rfl⟩ := trodVars_none hV
  obtain ⟨a0, rfl, rfl, rfl, w0⟩ := open_int Tryd.underlying5 (hval 0 5 v0 rfl rfl) h0
  obtain ⟨a1, len1, cap1, rfl⟩ := okWide_slice Tryd.underlying23 (hval 1 23 v1 rfl rfl)
  have k1 := h1
  have lt1 : ∀ x ∈ p1, x.block < W.heap.size := by obtain ⟨m, hm⟩ := k1; exact DataW.trod_lt m _ _ _ hm
  obtain ⟨z1, w1⟩ : ∃ zs, IsRow .i64 W a1 len1 cap1 zs := open_row Tryd.underlying23 Tryd.underlying3 (by kernel_rfl) h1
  obtain ⟨a2, rfl, rfl, rfl, w2⟩ := open_int Tryd.underlying3 (hval 2 3 v2 rfl rfl) h2
  clear hA0 hval0
  refine (walk a0 a1 len1 cap1 z1 a2 W (tab_of_laid hL) w0 w1 w2).mono fun e W' ⟨he, bel⟩ => ?_
  subst he
  exact ⟨_, rfl, _, _, _, [], _, [], hW', trodAll_mk1 (shut_bool Tryd.underlying4 _), (trodAll_cons_mk (shut_int Tryd.underlying5 w0) (trodAll_cons_mk (Below.trod laidOut (by kernel_rfl) (of_decide_eq_true (by kernel_rfl)) k1 bel lt1) (trodAll_cons_mk (shut_int Tryd.underlying3 w2) trodAll_mk0))), rfl, bel.frame _, fun h => by cases h⟩

theorem over : Rows.markOddRow.holds Tryd.pinned (OpenSpec.ofChange Rows.markOddSpec) :=
  OpenClaim.holds_of_wide 8 Tryd.f8 rfl rfl rfl rfl rfl rfl rfl ⟨rfl, rfl, rfl, rfl, rfl⟩ rfl rfl rfl rfl rfl (by kernel_rfl) Tryd.func8 (by kernel_rfl)
    (of_decide_eq_true (by kernel_rfl)) (by unfold Func.isWrapper; first | (rw [if_pos (by decide +kernel)]; kernel_rfl) | (rw [if_neg (by decide +kernel)]; exact ⟨rfl, rfl⟩))
    (fun os started H enc _ => lifted os started H enc)

/-- The statement. -/
theorem proved : Rows.MarkOddCardSaid :=
  Claim7.holds_tied_plain_at .later [] [.data] true Rows.markOddCard.stood.harness false
    over (fun _ h => by cases h) (by kernel_rfl) (fun _ h => by cases h) markOdd_row_tie rfl ⟨rfl, rfl⟩ (by kernel_rfl) rfl
    (fun f fn hf hfn => by
      obtain rfl : f = 8 := Option.some.inj ((show Tryd.prog.funcNamed "gleaning/gleaninglaw14.MarkOdd" = some 8 by kernel_rfl).symm.trans hf) |>.symm
      obtain rfl : fn = Tryd.f8 := (Option.some.inj (Tryd.func8.symm.trans hfn)).symm
      exact ⟨by kernel_rfl, fun j t ht => by
        rw [Tryd.params8] at ht
        have hm : t ∈ [5, 23, 3] := by simpa using Array.mem_of_getElem? ht
        have hall : ([5, 23, 3].all fun u => !Tryd.prog.wantsStandIn u) = true := by kernel_rfl
        exact (show Tryd.prog.wantsStandIn t = false by simpa using List.all_eq_true.1 hall t hm)⟩)
    (by kernel_rfl)
#print axioms proved
end Go.Proofs.YtaddomgjjemglaaDoor.markOdd

