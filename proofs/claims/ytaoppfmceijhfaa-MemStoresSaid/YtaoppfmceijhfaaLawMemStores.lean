/- For all sizes, places and words MemStores answers true: what is stored is loaded, as it was stored last; other words stay. Conditions: none. -/
import Derived.Test.YtaoppfmceijhfaaMem2
import Derived.Test.YtaoppfmceijhfaaRef01
import Derived.ShutString
namespace Go.Proofs.Ytaoppfmceijhfaa.memStores
open Go.ChangeShapes Go.WideShapes Go.ChangeAt Go.RowKit
set_option linter.unusedVariables false

set_option maxHeartbeats 1000000 in
theorem walk_long (s : Int) (a1 : Option Addr) (len cap : Nat) (v : Int) (w : World) (h : 200 < len) (hl : len ≤ 9223372036854775807) :
    Calls Try.prog 8 #[.int .u8 s, .slice a1 len cap, .int .i64 v] w fun e w' => e = .returned (.bool true) ∧ Below w.heap.size w w' := by
  go_enter Try.func8, Try.ntmps8
  go_wp2_with fail
  refine (awake_any _).mono ?_
  rintro e wa ⟨rfl, ca⟩
  go_wp2_with fail
  refine (awake_any _).mono ?_
  rintro e wb ⟨rfl, cb⟩
  go_wp2
  go_ret
  exact ⟨rfl, (ca.trans cb).below (fun _ _ h => h) (Nat.le_refl _)⟩

set_option maxHeartbeats 2000000 in
set_option maxRecDepth 100000 in
theorem walk_main (s : Nat) (a1 : Option Addr) (len cap : Nat) (zs : List Int) (v : Int) (w : World) (h0 : IsRow .u8 w a1 len cap zs) (hs : s ≤ 255) (hlen : len ≤ 200) :
    Calls Try.prog 8 #[.int .u8 s, .slice a1 len cap, .int .i64 v] w fun e w' => e = .returned (.bool true) ∧ Below w.heap.size w w' := by
  have hcl : clamp (1 + s) = 1 + s := by unfold clamp; omega
  have HCL := hide hcl
  clear hcl
  have H0 := hide h0
  clear h0
  have hn3 : decide ((200 : Int) < len) = false := by simp; omega
  go_enter Try.func8, Try.ntmps8
  go_wp2_with fail
  refine (awake_any _).mono ?_
  rintro e wa ⟨rfl, ca⟩
  go_wp2_with fail
  refine (new_any _ _).mono ?_
  rintro e w1 ⟨rfl, h1, c1⟩
  rw [HCL.out] at h1
  have hga : w.heap.size ≤ wa.heap.size := ca.size
  obtain ⟨n, hn⟩ : ∃ n, n = 1 + s := ⟨_, rfl⟩
  have hns : (1 : Int) + s = n := by omega
  rw [← hn] at h1
  rw [hns]
  have hn1 : 0 < n := by omega
  have hn2 : n ≤ 256 := by omega
  clear hn hns HCL
  obtain ⟨p, hp⟩ : ∃ p, p = wa.heap.size + 1 := ⟨_, rfl⟩
  obtain ⟨g, hg⟩ : ∃ g, g = wa.heap.size := ⟨_, rfl⟩
  rw [← hp, ← hg] at h1
  rw [← hp]
  have hwg : w.heap.size ≤ g := by omega
  have hwp : w.heap.size ≤ p := by omega
  clear hp hg
  have cc := ((ca.trans c1).mono (S := fun i => w.heap.size ≤ i) (fun _ _ h => h.elim))
  clear ca c1
  have hm := mk_ints n (by omega) (by omega)
  go_wp2
  have hb := Blk.new w1 3 (ints (zeros n))
  have cb := cc.alloc (.cells (ints (zeros n)).toArray 3)
  have hpb : p < w1.heap.size := h1.1.lt
  have hgb : g < w1.heap.size := h1.2.lt
  have h2 : Ar (w1.alloc (.cells (ints (zeros n)).toArray 3)) p g (zeros n) := h1.chg ((Chg.refl (fun _ => False) _).alloc _) id id
  generalize w1.alloc (.cells (ints (zeros n)).toArray 3) = w2 at *
  generalize w1.heap.size = b at *
  clear hm h1 cc
  go_loopw [31] (fun i wr => ∃ (k : Nat) (ys : List Int), k ≤ len ∧ i = .int .i64 k ∧ ys.length = n ∧ Ar wr p g ys ∧ Blk wr b 3 (ints ys) ∧ Chg (fun i => w.heap.size ≤ i) w wr) (fun i _ => len - (intOf i).toNat)
  case atStart => exact ⟨0, _, Nat.zero_le _, rfl, zeros_length n, h2, hb, cb⟩
  case round =>
    obtain ⟨k, ys, hk, rfl, hyl, har, hbl, hch⟩ := hrel
    have HYL := hide hyl
    clear hyl
    by_cases hlt : k < len
    · obtain ⟨x, rfl, hcell, hwf⟩ := (H0.out.chg hch (fun i hi => by omega)).at_ hlt
      have hz := bounds_u8 hwf
      generalize zs.getD k 0 = z at *
      obtain ⟨Z, rfl⟩ := Int.eq_ofNat_of_zero_le hz.1
      have hZ : Z ≤ 255 := by omega
      clear hz hwf
      obtain ⟨j, hj, hjn⟩ : ∃ j : Nat, (Z : Int) % (n : Int) = j ∧ j < n := ⟨Z % n, by simp, Nat.mod_lt Z hn1⟩
      have hbc := hbl.cell j
      rw [ints_get _ _ (by rw [HYL.out]; omega)] at hbc
      have hbf := hbl.frozen j
      generalize ys.getD j 0 = y0 at *
      go_wp2_with fail
      generalize wrap64 (v + ↑k) = u at *
      have hbl3 := hbl.set_ j (.int .i64 u)
      have har3 : Ar (wr.setCell ⟨b, j, none⟩ (.int .i64 u)) p g ys := har.chg ((Chg.refl (· = b) _).set1 _ _) (by omega) (by omega)
      have hch3 := hch.setCell (p := ⟨b, j, none⟩) (fun _ => by show w.heap.size ≤ b; omega) (.int .i64 u)
      generalize wr.setCell ⟨b, j, none⟩ (.int .i64 u) = w3 at *
      clear hbc hbf hbl har hch hj
      refine (store_ok p g ys j u _ har3 (by rw [HYL.out]; omega) (by rw [HYL.out]; omega)).mono ?_
      rintro e w4 ⟨rfl, h4, c4⟩
      have hbl4 := hbl3.chg c4 (by omega)
      rw [ints_set] at hbl4
      have cc4 := hch3.step c4 (fun i hi e => by omega)
      clear hbl3 har3 hch3 hcell
      go_wp2
      go_roundw
      case rel => exact ⟨k + 1, ys.set j u, by omega, by go_num, by rw [List.length_set, HYL.out], h4, hbl4, cc4⟩
      case measure => simp [intOf]; omega
    · have hw := words_ok p g ys 0 n wr har (by rw [HYL.out]; omega) (by rw [HYL.out]; omega)
      rw [List.drop_zero, List.take_of_length_le (by rw [HYL.out]; exact Nat.le_refl _)] at hw
      have HW := hide hw
      clear hw
      go_wp2_with fail
      refine HW.out.mono ?_
      rintro e w3 ⟨rfl, h3, c3⟩
      have hb3 := hbl.chg c3 id
      have ha3 := har.chg c3 id id
      have cc3 := hch.step c3 (fun _ _ h => h.elim)
      clear hbl har hch c3 HW
      generalize wr.heap.size = b2 at *
      go_wp2_with fail
      refine (same_yes _ _ n _ _ ys _ (Rd.of_blk h3 HYL.out) (Rd.of_blk hb3 HYL.out) (by omega)).mono ?_
      rintro e w4 ⟨rfl, c4⟩
      have ha4 := (ha3.chg c4 id id).sl
      rw [HYL.out] at ha4
      have HA := hide ha4
      have cc4 := cc3.step c4 (fun _ _ h => h.elim)
      clear ha4 ha3 hb3 h3 c4 cc3
      go_wp2_with fail
      refine (store_no _ _ n _ _ _ HA.out (by omega) (by omega) (by simp [exB])).mono ?_
      rintro e w' ⟨rfl, rfl⟩
      go_wp2_with fail
      refine (store_no _ _ n _ _ _ HA.out (by omega) (by omega) (by simp [exB])).mono ?_
      rintro e w' ⟨rfl, rfl⟩
      go_wp2
      go_ret
      exact ⟨rfl, cc4.below (fun i hi => by omega) (Nat.le_refl _)⟩

theorem walk (a0 : Int) (a1 : Option Addr) (len1 cap1 : Nat) (z1 : List Int) (a2 : Int) (w : World) (w0 : (Lit.int .u8 a0).wf = true) (w1 : IsRow .u8 w a1 len1 cap1 z1) (w2 : (Lit.int .i64 a2).wf = true) :
    Calls Try.prog 8 #[.int .u8 a0, .slice a1 len1 cap1, .int .i64 a2] w fun e w' => e = .returned (.bool true) ∧ Below w.heap.size w w' := by
  have b0 := bounds_u8 w0
  have bl : len1 ≤ 9223372036854775807 := by have h1 := w1.2.1; have h2 := w1.2.2.1; unfold maxLen at h2; omega
  obtain ⟨s, rfl⟩ := Int.eq_ofNat_of_zero_le b0.1
  by_cases h : len1 ≤ 200
  · exact walk_main s a1 len1 cap1 z1 a2 w w1 (by omega) h
  · exact walk_long _ a1 len1 cap1 a2 w (by omega) bl

theorem own : ownKnob Try.prog.godebug = none := by kernel_rfl
theorem laidOut : laidOutB Try.prog = true := by kernel_rfl

set_option maxRecDepth 100000 in
theorem lifted (os : Os) (started : os.Started) (H : Type) (enc : TypeId × Value → H) :
    ReturnsInHanded {} Try.checked os 8 .any (Rows.memStoresSpec.pre6 enc Try.prog Try.f8 Rows.memStoresRow.domain false) (Rows.memStoresSpec.post enc Try.prog Try.f8 false true false false) := by
  refine returnsInHanded_of_change (C := Try.checked) own started (by kernel_rfl) Try.func8
    (ChangeSpec.witness6 (enc := enc) (C := Try.checked) false ⟨#[], #[.int .u8 0, .slice none 0 0, .int .i64 0], []⟩ 8 (by kernel_rfl) (by kernel_rfl) (by kernel_rfl) (by kernel_rfl)) ?_
  intro W base args ds gs before hval0 hW hcnd _
  have hval : ∀ (j : Nat) t v, Try.f8.params[j]? = some t → args[j]? = some v → Value.okWide Try.prog W .any base t v := hval0
  have hW' := hW
  obtain ⟨p, q, hA0, hV, rfl, hfz, hnd⟩ := hW
  have hA : DataW.TrodAll enc Try.prog W 0 (fun _ => true) true Try.f8.params.toList args.toList ds p := hA0
  rw [Try.params8] at hA hval
  obtain ⟨v0, vs0, d0, ds0, p0, q0, hargs, rfl, rfl, h0, r0⟩ := trodAll_cons hA
  obtain ⟨v1, vs1, d1, ds1, p1, q1, rfl, rfl, rfl, h1, r1⟩ := trodAll_cons r0
  obtain ⟨v2, vs2, d2, ds2, p2, q2, rfl, rfl, rfl, h2, r2⟩ := trodAll_cons r1
  obtain ⟨rfl, rfl, rfl⟩ := trodAll_nil r2
  obtain rfl : args = #[v0, v1, v2] := by cases args; simp_all
  obtain ⟨rfl, rfl⟩ := trodVars_none hV
  obtain ⟨a0, rfl, rfl, rfl, w0⟩ := open_int Try.underlying5 (hval 0 5 v0 rfl rfl) h0
  obtain ⟨a1, len1, cap1, rfl⟩ := okWide_slice Try.underlying52 (hval 1 52 v1 rfl rfl)
  have k1 := h1
  have lt1 : ∀ x ∈ p1, x.block < W.heap.size := by obtain ⟨m, hm⟩ := k1; exact DataW.trod_lt m _ _ _ hm
  obtain ⟨z1, w1⟩ : ∃ zs, IsRow .u8 W a1 len1 cap1 zs := open_row Try.underlying52 Try.underlying5 (by kernel_rfl) h1
  obtain ⟨a2, rfl, rfl, rfl, w2⟩ := open_int Try.underlying3 (hval 2 3 v2 rfl rfl) h2
  clear hA0 hval0
  refine (walk a0 a1 len1 cap1 z1 a2 W w0 w1 w2).mono fun e W' ⟨he, bel⟩ => ?_
  subst he
  exact ⟨_, rfl, _, _, _, [], _, [], hW', trodAll_mk1 (shut_bool Try.underlying4 _), (trodAll_cons_mk (shut_int Try.underlying5 w0) (trodAll_cons_mk (Below.trod laidOut (by kernel_rfl) (of_decide_eq_true (by kernel_rfl)) k1 bel lt1) (trodAll_cons_mk (shut_int Try.underlying3 w2) trodAll_mk0))), rfl, bel.frame _, fun h => by cases h⟩

theorem over : Rows.memStoresRow.holds Try.pinned (OpenSpec.ofChange Rows.memStoresSpec) :=
  OpenClaim.holds_of_wide 8 Try.f8 rfl rfl rfl rfl rfl rfl rfl ⟨rfl, rfl, rfl, rfl, rfl⟩ rfl rfl rfl rfl rfl (by kernel_rfl) Try.func8 (by kernel_rfl)
    (of_decide_eq_true (by kernel_rfl)) (by unfold Func.isWrapper; first | (rw [if_pos (by decide +kernel)]; kernel_rfl) | (rw [if_neg (by decide +kernel)]; exact ⟨rfl, rfl⟩))
    (fun os started H enc _ => lifted os started H enc)

/-- The statement. -/
theorem proved : Rows.MemStoresSaid := over
#print axioms proved
end Go.Proofs.Ytaoppfmceijhfaa.memStores

