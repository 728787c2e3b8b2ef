/- For all values and numbers HandleEach answers true: what all handles stand for is changed in order, each once, and nothing else is. Conditions: none. -/
import Derived.Test.YtmklmoahkcekiaaL8Cls
import Derived.Test.YtmklmoahkcekiaaL1Ref01
import Derived.ShutString
namespace Go.Proofs.Ytmklmoahkcekiaa.handleEach
open Go.ChangeShapes Go.WideShapes Go.ChangeAt Go.RowKit Go.Shelf Go.Proofs.Ytmklmoahkcekiaa.L8
set_option linter.unusedVariables false

/-- The table when the first k values have got handles. -/
def fl (zs : List Int) (k : Nat) : Nat → Sl := fun i => if i < k then ⟨0, true, zs.getD i 0⟩ else zero
theorem fl_t (zs : List Int) (k i : Nat) : (fl zs k i).t = decide (i < k) := by unfold fl; split <;> simp_all [zero]
theorem fl_e (zs : List Int) (k i : Nat) : (fl zs k i).e = 0 := by unfold fl; split <;> rfl
theorem fl_v (zs : List Int) {k i : Nat} (h : i < k) : (fl zs k i).v = zs.getD i 0 := by unfold fl; rw [if_pos h]
theorem fl_zero (zs : List Int) : fl zs 0 = fun _ => zero := by funext i; simp [fl]
theorem fl_succ (zs : List Int) (k : Nat) : upd (fl zs k) k ⟨(fl zs k k).e, true, zs.getD k 0⟩ = fl zs (k + 1) := by
  funext j
  unfold upd
  rw [fl_e]
  by_cases hj : j = k
  · subst hj
    simp [fl]
  · rw [if_neg hj]
    unfold fl
    by_cases h1 : j < k
    · rw [if_pos h1, if_pos (by omega)]
    · rw [if_neg h1, if_neg (by omega)]
theorem fl_bd (zs : List Int) (k n : Nat) : Bd (fl zs k) n := fun i _ => by rw [fl_e]; omega
theorem fl_ix (zs : List Int) {k n : Nat} (h : k ≤ n) : ix (fl zs k) n = List.range k := by
  induction n with
  | zero => obtain rfl : k = 0 := by omega
            rfl
  | succ n ih =>
    unfold ix
    rw [List.range_succ, List.filter_append]
    by_cases hk : k ≤ n
    · have := ih hk
      unfold ix at this
      rw [this]
      simp [fl_t]
      omega
    · obtain rfl : k = n + 1 := by omega
      rw [List.range_succ]
      congr 1
      · rw [List.filter_eq_self]
        intro i hi
        rw [fl_t]
        simp at hi ⊢
        omega
      · simp [fl_t]
theorem fl_vk (zs : List Int) {n : Nat} (h : n ≤ 64) (hn : zs.length = n) : vk (fl zs n) n = zs := by
  unfold vk
  rw [fl_ix zs h, List.take_of_length_le (by simp)]
  apply List.ext_getElem
  · simp [hn]
  · intro i h1 h2
    simp at h1 ⊢
    rw [fl_v zs h1]
    simp [List.getD_eq_getElem?_getD, h2]
theorem row_rd {w : World} {a : Option Addr} {len cap : Nat} {zs : List Int} (h : IsRow .i64 w a len cap zs) : L1.Rd w a len zs := ⟨h.1, h.2.2.2.1⟩
theorem own_rd {w : World} {base : Nat} {a : Option Addr} {n c : Nat} {xs : List Int} (h : w.ownsRow base 3 1 (.slice a n c) n (ints xs)) : L1.Rd w a n xs := by
  have hl : xs.length = n := by have := h.1; rw [ints_length] at this; omega
  refine ⟨hl, fun hn => ?_⟩
  obtain ⟨g, cap, e, _, _, _, _, hc⟩ := own_ints h hn
  injection e with e1 e2 e3
  subst e1
  exact ⟨_, rfl, fun i hi => by rw [addr_add, Nat.zero_add]; exact hc i hi⟩

set_option maxHeartbeats 1000000 in
theorem walk_long (a : Option Addr) (len cap : Nat) (d : Int) (w : World) (hl : 64 < len) :
    Calls Try.prog 5 #[.slice a len cap, .int .i64 d] w fun e w' => e = .returned (.bool true) ∧ Below w.heap.size w w' := by
  go_enter Try.func5, Try.ntmps5
  go_wp2_with fail
  refine (awake_any _).mono ?_
  rintro e wa ⟨rfl, ca⟩
  go_wp2_with fail
  refine (awake_any _).mono ?_
  rintro e wb ⟨rfl, cb⟩
  go_wp2
  go_ret
  exact ⟨rfl, (((Grow.box w _).trans ca).trans cb).below (fun _ _ h => h) (Nat.le_refl _)⟩
set_option maxHeartbeats 4000000 in
set_option maxRecDepth 100000 in
theorem walk_short (a : Option Addr) (len cap : Nat) (zs : List Int) (d : Int) (w : World) (hl : len ≤ 64) (hr : IsRow .i64 w a len cap zs) :
    Calls Try.prog 5 #[.slice a len cap, .int .i64 d] w fun e w' => e = .returned (.bool true) ∧ Below w.heap.size w w' := by
  have HR := hide hr
  have hl' : decide ((len : Int) > 64) = false := by simp; omega
  clear hr
  obtain ⟨A, hz, HZ⟩ := zero_is
  have hmf : ∀ (fn : Fn) (first cap : Array Value) (w : World), (Instr.makeFunc fn first cap).run Try.prog w = .ok (.func fn first cap) w := fun _ _ _ _ => rfl
  have hm := Blk.new w 3 [.int .i64 d]
  have cc := Grow.box w (.cells [Value.int .i64 d].toArray 3)
  obtain ⟨ab, hab⟩ : ∃ ab, w.heap.size = ab := ⟨_, rfl⟩
  have HAB := hide hab
  rw [hab] at hm
  go_enter Try.func5, Try.ntmps5
  go_wp2_with fail
  clear hab
  change Blk (w.alloc (.cells #[.int .i64 d] 3)) _ _ _ at hm
  change Grow w (w.alloc (.cells #[.int .i64 d] 3)) at cc
  generalize w.alloc (.cells #[.int .i64 d] 3) = wz at *
  refine (awake_any _).mono ?_
  rintro e wa ⟨rfl, c⟩
  replace hm := hm.chg c id
  replace cc := cc.trans c
  clear c
  go_wp2_with fail
  have hm0 := hm.alloc (.cells A 29)
  have h := HZ.out wa
  obtain ⟨g, hg⟩ : ∃ g, wa.heap.size = g := ⟨_, rfl⟩
  have HG : Hid (w.heap.size ≤ g) := hide (by rw [← hg]; exact cc.size)
  replace cc := cc.alloc (.cells A 29)
  rw [hg] at h ⊢
  generalize wa.alloc (.cells A 29) = w0 at *
  clear HZ hz hg
  clear hm hl'
  have hm := hm0
  have hne : ab ≠ g := by
    obtain ⟨cs, hb, _⟩ := h
    exact hm.ne_ hb (by decide)
  have HNE := hide hne
  clear hm0 hne
  have h' : Tb w0 g (fl zs 0) := by rw [fl_zero]; exact h
  have HM := hide hmf
  clear h hmf
  go_loopw [24] (fun i wr => ∃ k : Nat, i = .int .i64 k ∧ k ≤ len ∧ Tb wr g (fl zs k) ∧ Blk wr ab 3 [.int .i64 d] ∧ Grow w wr) (fun i _ => len - (intOf i).toNat)
  case atStart => exact ⟨0, rfl, Nat.zero_le _, h', hm, cc⟩
  case round =>
    clear h' hm cc
    obtain ⟨k, rfl, hk, h, hm, cc⟩ := hrel
    by_cases hlt : k < len
    · obtain ⟨x, rfl, hx, _⟩ := (HR.out.chg cc (fun i hi => id)).at_ hlt
      have HC := hide (new_at h (fl_bd zs k _) k (by omega) (fun j hj => by rw [fl_t]; simpa using hj) (by rw [fl_t]; simp) (zs.getD k 0))
      have HFL := hide (fl_succ zs k)
      generalize zs.getD k 0 = z at *
      go_wp2_with fail
      refine HC.out.mono ?_
      rintro e w1 ⟨rfl, h1, c1⟩
      rw [HFL.out] at h1
      replace hm := hm.chg c1 HNE.out
      replace cc := cc.new HG.out c1
      clear HC HFL c1
      go_wp2
      go_roundw
      case rel => exact ⟨k + 1, by simp, by omega, h1, hm, cc⟩
      case measure => simp [intOf]; omega
    · obtain rfl : k = len := by omega
      have hmf := HM.out
      go_wp2_with fail
      have hq := Blk.new wr 37 [.slice none 0 0]
      have hgq : g < wr.heap.size := h.lt
      have haq : ab < wr.heap.size := hm.lt
      have HQW := hide cc.size
      replace h := h.grow (Grow.box wr (.cells [Value.slice none 0 0].toArray 37))
      replace hm := hm.alloc (.cells [Value.slice none 0 0].toArray 37)
      replace cc := cc.alloc (.cells [Value.slice none 0 0].toArray 37)
      clear hmf HM
      generalize wr.alloc (.cells #[.slice none 0 0] 37) = w2 at *
      obtain ⟨q, hqe⟩ : ∃ q, wr.heap.size = q := ⟨_, rfl⟩
      rw [hqe] at hq hgq haq HQW ⊢
      clear hqe
      have hlen := HR.out.1
      have hn : (ix (fl zs k) 64).length = k := by rw [fl_ix zs hl]; simp
      have hq2 := hq.lt
      refine (each_by 22 #[ptr q, ptr ab] (enters_of Try.func22 (by kernel_rfl) rfl) (fun x => bits .xor .i64 x d) (· = q) (Cm q ab d) h (fl_bd zs k _)
        (by omega) (fun i hi => by omega)
        (fun w1 c => ⟨_, hq.chg c id, World.ownsRow_nil _ _ _ _, hm.chg c id⟩)
        (fun B l W W' hI hB c => hI.chg c (by omega) (fun e => HNE.out e) (fun i hi e => by omega))
        (fun B l x W hI hB hBW hl => came_any hI (by omega) (by omega) hBW hl x)).mono ?_
      rintro e w3 ⟨rfl, ⟨B, hcm, hB1, hB2⟩, h3, c3⟩
      rw [hn, fl_vk zs hl hlen] at hcm
      replace cc : Grow w w3 := cc.step c3 (fun i hi hx => by
        have := HG.out
        have := HQW.out
        rcases hx with hx | hx <;> omega)
      have hb3 : Bd (stt (fun x => bits .xor .i64 x d) (fl zs k) (ix (fl zs k) 64).length) 1000000 := stt_bd (fl_bd zs k _)
      have hix : ix (stt (fun x => bits .xor .i64 x d) (fl zs k) (ix (fl zs k) 64).length) 64 = List.range k := by rw [ix_stt, fl_ix zs hl]
      have hst : ∀ i, i < k → (stt (fun x => bits .xor .i64 x d) (fl zs k) (ix (fl zs k) 64).length i).v = bits .xor .i64 (zs.getD i 0) d := fun i hi => by rw [stt_v (by omega) (by rw [fl_t]; simpa using hi), fl_v zs hi]
      generalize stt (fun x => bits .xor .i64 x d) (fl zs k) (ix (fl zs k) 64).length = T at *
      clear h hm hq c3 hn hgq hB1
      have HST := hide hst
      have HIX := hide hix
      have HB3 := hide hb3
      clear hst hix hb3
      go_wp2_with fail
      refine (each_none _ _).mono ?_
      rintro e w4 ⟨rfl, rfl⟩
      go_wp2_with fail
      refine (all_is h3 HB3.out).mono ?_
      rintro e w4 ⟨v, rfl, hown, c4⟩
      replace cc := cc.trans c4
      replace hcm := hcm.chg c4 id id (fun _ _ => id)
      replace h3 := h3.grow c4
      have hhl : (hs T 64).length = k := by rw [hs_len, HIX.out]; simp
      rw [hhl] at hown
      obtain ⟨oa, ocap, rfl⟩ := own_len hown
      have HOWN := hide hown
      have HCM := hide hcm
      clear c4 hown hcm hhl
      go_wp2
      go_loopw [43] (fun i wr => ∃ j : Nat, i = .int .i64 j ∧ j ≤ k ∧ Grow w4 wr) (fun i _ => k - (intOf i).toNat)
      case atStart => exact ⟨0, rfl, Nat.zero_le _, Chg.refl _ _⟩
      case round =>
        obtain ⟨j, rfl, hj, c⟩ := hrel
        by_cases hjk : j < k
        · obtain ⟨lg, cap2, e1, _, _, _, _, hcl⟩ := own_ints HOWN.out (by omega)
          cases e1
          obtain ⟨i, ei, hi, ht, eh, _, _⟩ := ix_at (S := T) (n := 64) (k := j) (by rw [HIX.out]; simpa using hjk)
          rw [HIX.out] at ei
          obtain rfl : j = i := by simpa [hjk] using ei
          have hc := c.cell (hcl j hjk)
          rw [eh] at hc
          have HO : Hid (Of T j (hd T j : Nat)) := hide ⟨hi, ht, rfl⟩
          have hv := HST.out j hjk
          obtain ⟨x, rfl, hx, _⟩ := (HR.out.chg (cc.trans c) (fun i hi => id)).at_ hjk
          obtain ⟨y, hy⟩ : ∃ y : Int, (hd T j : Nat) = y := ⟨_, rfl⟩
          rw [hy] at hc HO
          generalize zs.getD j 0 = z at *
          have h5 := h3.grow c
          obtain ⟨vq, _, _, hmm⟩ := HCM.out.chg c id id (fun _ _ => id)
          have hm0 := hmm.cell 0
          clear eh ei hcl hy ht
          go_wp2_with fail
          refine (get_yes h5 HB3.out HO.out).mono ?_
          rintro e w5 ⟨rfl, c5⟩
          rw [hv]
          replace hx := c5.cell hx
          have hm5 : w5.cell? ⟨ab, 0, none⟩ = some (.int .i64 d) := c5.cell hm0
          have c6 := c.trans c5
          clear c c5 hc hm0 hmm hv h5 HO
          go_wp2
          go_quiet (fail)
          go_wp2
          go_roundw
          case rel => exact ⟨j + 1, by simp, by omega, by first | exact c6.drewN _ | exact c6.drew | exact c6⟩
          case measure => simp [intOf]; omega
        · obtain rfl : j = k := by omega
          obtain ⟨vq, hvq, hown, _⟩ := HCM.out.chg c id id (fun _ _ => id)
          rw [hlen] at hown
          obtain ⟨va, vcap, rfl⟩ := own_len hown
          have hq0 : wr.cell? ⟨q, 0, none⟩ = some (.slice va j vcap) := hvq.cell 0
          have HRD := hide (row_rd (HR.out.chg (cc.trans c) (fun i hi => id)))
          have HOR := hide (own_rd hown)
          replace cc := cc.trans c
          clear c hvq hown h3 HCM HOWN
          go_wp2_with fail
          refine (L1.same_yes _ _ j _ _ zs _ HOR.out HRD.out (by omega)).mono ?_
          rintro e w5 ⟨rfl, c5⟩
          replace cc := cc.trans c5
          go_wp2
          go_ret
          exact ⟨rfl, cc.below (fun _ _ h => h) (Nat.le_refl _)⟩
theorem walk (a : Option Addr) (len cap : Nat) (zs : List Int) (d : Int) (w : World) (hr : IsRow .i64 w a len cap zs) (hd : (Lit.int .i64 d).wf = true) :
    Calls Try.prog 5 #[.slice a len cap, .int .i64 d] w fun e w' => e = .returned (.bool true) ∧ Below w.heap.size w w' := by
  by_cases hl : 64 < len
  · exact walk_long a len cap d w hl
  · exact walk_short a len cap zs d w (by omega) hr

theorem own : ownKnob Try.prog.godebug = none := by kernel_rfl
theorem laidOut : laidOutB Try.prog = true := by kernel_rfl

set_option maxRecDepth 100000 in
theorem lifted (os : Os) (started : os.Started) (H : Type) (enc : TypeId × Value → H) :
    ReturnsInHanded {} Try.checked os 5 .any (Rows.handleEachSpec.pre6 enc Try.prog Try.f5 Rows.handleEachRow.domain false) (Rows.handleEachSpec.post enc Try.prog Try.f5 false true false false) := by
  refine returnsInHanded_of_change (C := Try.checked) own started (by kernel_rfl) Try.func5
    (ChangeSpec.witness6 (enc := enc) (C := Try.checked) false ⟨#[], #[.slice none 0 0, .int .i64 0], []⟩ 8 (by kernel_rfl) (by kernel_rfl) (by kernel_rfl) (by kernel_rfl)) ?_
  intro W base args ds gs before hval0 hW hcnd _
  have hval : ∀ (j : Nat) t v, Try.f5.params[j]? = some t → args[j]? = some v → Value.okWide Try.prog W .any base t v := hval0
  have hW' := hW
  obtain ⟨p, q, hA0, hV, rfl, hfz, hnd⟩ := hW
  have hA : DataW.TrodAll enc Try.prog W 0 (fun _ => true) true Try.f5.params.toList args.toList ds p := hA0
  rw [Try.params5] at hA hval
  obtain ⟨v0, vs0, d0, ds0, p0, q0, hargs, rfl, rfl, h0, r0⟩ := trodAll_cons hA
  obtain ⟨v1, vs1, d1, ds1, p1, q1, rfl, rfl, rfl, h1, r1⟩ := trodAll_cons r0
  obtain ⟨rfl, rfl, rfl⟩ := trodAll_nil r1
  obtain rfl : args = #[v0, v1] := by cases args; simp_all
  obtain ⟨rfl, rfl⟩ := trodVars_none hV
  obtain ⟨a0, len0, cap0, rfl⟩ := okWide_slice Try.underlying37 (hval 0 37 v0 rfl rfl)
  have k0 := h0
  have lt0 : ∀ x ∈ p0, x.block < W.heap.size := by obtain ⟨m, hm⟩ := k0; exact DataW.trod_lt m _ _ _ hm
  obtain ⟨z0, w0⟩ : ∃ zs, IsRow .i64 W a0 len0 cap0 zs := open_row Try.underlying37 Try.underlying3 (by kernel_rfl) h0
  obtain ⟨a1, rfl, rfl, rfl, w1⟩ := open_int Try.underlying3 (hval 1 3 v1 rfl rfl) h1
  clear hA0 hval0
  refine (walk a0 len0 cap0 z0 a1 W w0 w1).mono fun e W' ⟨he, bel⟩ => ?_
  subst he
  exact ⟨_, rfl, _, _, _, [], _, [], hW', trodAll_mk1 (shut_bool Try.underlying4 _), (trodAll_cons_mk (Below.trod laidOut (by kernel_rfl) (of_decide_eq_true (by kernel_rfl)) k0 bel lt0) (trodAll_cons_mk (shut_int Try.underlying3 w1) trodAll_mk0)), rfl, bel.frame _, fun h => by cases h⟩

theorem over : Rows.handleEachRow.holds Try.pinned (OpenSpec.ofChange Rows.handleEachSpec) :=
  OpenClaim.holds_of_wide 5 Try.f5 rfl rfl rfl rfl rfl rfl rfl ⟨rfl, rfl, rfl, rfl, rfl⟩ rfl rfl rfl rfl rfl (by kernel_rfl) Try.func5 (by kernel_rfl)
    (of_decide_eq_true (by kernel_rfl)) (by unfold Func.isWrapper; first | (rw [if_pos (by decide +kernel)]; kernel_rfl) | (rw [if_neg (by decide +kernel)]; exact ⟨rfl, rfl⟩))
    (fun os started H enc _ => lifted os started H enc)

/-- The statement. -/
theorem proved : Rows.HandleEachSaid := over
#print axioms proved
end Go.Proofs.Ytmklmoahkcekiaa.handleEach

