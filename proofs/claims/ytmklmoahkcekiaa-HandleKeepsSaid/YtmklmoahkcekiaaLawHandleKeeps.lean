/- For all calls and numbers HandleKeeps answers true: what a handle stands for is changed by Set of it alone, whatever other handles come and go. Conditions: none. -/
import Derived.Test.YtmklmoahkcekiaaL8Any
import Derived.ShutString
namespace Go.Proofs.Ytmklmoahkcekiaa.handleKeeps
open Go.ChangeShapes Go.WideShapes Go.ChangeAt Go.RowKit Go.Proofs.Ytmklmoahkcekiaa.L8
set_option linter.unusedVariables false

set_option maxHeartbeats 1000000 in
theorem walk_long (a : Option Addr) (len cap : Nat) (x : Int) (w : World) (hl : 300 < len) :
    Calls Try.prog 8 #[.slice a len cap, .int .i64 x] w fun e w' => e = .returned (.bool true) ∧ Below w.heap.size w w' := by
  go_enter Try.func8, Try.ntmps8
  go_wp2_with fail
  refine (awake_any _).mono ?_
  rintro e wa ⟨rfl, ca⟩
  go_wp2_with fail
  refine (awake_any _).mono ?_
  rintro e wb ⟨rfl, cb⟩
  go_wp2
  go_ret
  exact ⟨rfl, (ca.trans cb).below (fun _ _ h => h) (Nat.le_refl _)⟩
set_option maxHeartbeats 4000000 in
set_option maxRecDepth 100000 in
theorem walk_short (a : Option Addr) (len cap : Nat) (rows : List (List Value)) (x : Int) (w : World) (hl : len ≤ 300) (hr : IsOps w a len cap rows) :
    Calls Try.prog 8 #[.slice a len cap, .int .i64 x] w fun e w' => e = .returned (.bool true) ∧ Below w.heap.size w w' := by
  have HR := hide hr
  have hl' : decide ((len : Int) > 300) = false := by simp; omega
  clear hr
  obtain ⟨A, hz, HZ⟩ := zero_is
  go_enter Try.func8, Try.ntmps8
  go_wp2_with fail
  refine (awake_any _).mono ?_
  rintro e wa ⟨rfl, cc⟩
  go_wp2_with fail
  have h := HZ.out wa
  obtain ⟨g, hg⟩ : ∃ g, wa.heap.size = g := ⟨_, rfl⟩
  have HG : Hid (w.heap.size ≤ g) := hide (by rw [← hg]; exact cc.size)
  replace cc := cc.alloc (.cells A 29)
  rw [hg] at h ⊢
  generalize wa.alloc (.cells A 29) = w0 at *
  clear HZ hz hg
  clear hl'
  have HN : Calls Try.prog 12 #[ptr g, .int .i64 x] w0 fun e w' => e = .returned (two 1 0) ∧ Tb w' g (upd (fun _ => zero) 0 ⟨0, true, x⟩) ∧ Chg (· = g) w0 w' := new_at h (zero_bd _) 0 (by omega) (fun j hj => absurd hj (by omega)) rfl x
  refine HN.mono ?_
  rintro e w1 ⟨rfl, h1, c⟩
  replace cc := cc.new HG.out c
  clear c h HN
  have HI : Hid (∃ S, Tb w1 g S ∧ Bd S 0 ∧ Of S 0 1 ∧ (S 0).v = x) := hide ⟨_, h1, (zero_bd 0).upd (Nat.le_refl _), ⟨by omega, rfl, rfl⟩, rfl⟩
  clear h1
  go_wp2
  go_loopw [31] (fun i wr => ∃ (k : Nat) (S : Nat → Sl), i = .int .i64 k ∧ k ≤ len ∧ Tb wr g S ∧ Bd S k ∧ Of S 0 1 ∧ (S 0).v = x ∧ Grow w wr) (fun i _ => len - (intOf i).toNat)
  case atStart =>
    obtain ⟨S, h1, h2, h3, h4⟩ := HI.out
    exact ⟨0, S, rfl, Nat.zero_le _, h1, h2, h3, h4, cc⟩
  case round =>
    clear cc HI
    obtain ⟨k, S, rfl, hkl, h, hB, hown, hv0, cc⟩ := hrel
    have hv := hv0
    have hB0 := hB.mono (show k ≤ 1000000 by omega)
    by_cases hlt : k < len
    · obtain ⟨b, off, K, H, X, o, rfl, ⟨c0, c1, c2, c3⟩, w1, w2, w3⟩ := IsOps.one (HR.out.chg cc (fun i hi => id)) hlt
      have hbg : ¬ b = g := by
        obtain ⟨b', off', _, _, _, _, e', ⟨hc, _⟩, _⟩ := IsOps.one HR.out hlt
        cases e'
        have := cell_lt hc
        have := HG.out
        dsimp only at *
        omega
      by_cases h1 : K = 1
      · subst h1
        obtain ⟨y, z, S', hS, HC⟩ := new_any hB0 X
        replace HC := hide HC
        have hk := hS.keeps hown.2.1
        have hB' := (hS.bd hB).mono (show k ≤ 1000000 by omega)
        have hB'' := (hS.bd hB).mono (show k ≤ k + 1 by omega)
        go_wp2_with fail
        refine (HC.out _ _ h).mono ?_
        rintro e w2 ⟨rfl, h', c⟩
        clear HC
        replace cc := cc.new HG.out c
        clear c h hS hv0
        have ho1 := hown.same hk
        replace hv := (congrArg Sl.v hk).trans hv
        have ho := ho1
        clear hk
        go_wp2_with fail
        refine (get_yes h' hB' ho).mono ?_
        rintro e w3 ⟨rfl, c⟩
        replace cc := cc.trans c
        replace h' := h'.grow c
        clear c
        rw [hv]
        go_wp2
        go_roundw
        case rel => exact ⟨k + 1, S', by simp, by omega, h', hB'', ho, hv, cc⟩
        case measure => simp [intOf]; omega
      · have q1 : (K == 1) = false := by simpa using h1
        by_cases h3 : K = 3
        · subst h3
          by_cases hH : H = 1
          · subst hH
            have hB'' := hB.mono (show k ≤ k + 1 by omega)
            clear hv0
            go_wp2_with fail
            refine (get_yes h hB0 hown).mono ?_
            rintro e w3 ⟨rfl, c⟩
            replace cc := cc.trans c
            replace h := h.grow c
            clear c
            rw [hv]
            go_wp2
            go_roundw
            case rel => exact ⟨k + 1, S, by simp, by omega, h, hB'', hown, hv, cc⟩
            case measure => simp [intOf]; omega
          · have qH : (H != 1) = true := by simpa using hH
            obtain ⟨z, S', hS, HC⟩ := set_any hB0 w2 X
            replace HC := hide HC
            have hk := hS.keeps hown (Ne.symm hH)
            have hB' := (hS.bd hB).mono (show k ≤ 1000000 by omega)
            have hB'' := (hS.bd hB).mono (show k ≤ k + 1 by omega)
            clear hH h1
            go_wp2_with fail
            have HK := hide (fun W' (c : Chg (· = g) wr W') => (show W'.cell? ⟨b, off + k * 4 + 1, none⟩ = some (.int .i64 H) ∧ W'.cell? ⟨b, off + k * 4 + 2, none⟩ = some (.int .i64 X) from ⟨c.cell c1 hbg, c.cell c2 hbg⟩))
            go_region_held3 (fun W => W.cell? ⟨b, off + k * 4 + 1, none⟩ = some (.int .i64 H) ∧ W.cell? ⟨b, off + k * 4 + 2, none⟩ = some (.int .i64 X)) (first | exact HK.out _ ((Chg.refl _ _).drew.trans c) | go_keep) (first | (go_at_call 15; refine (HC.out _ _ h.drew).mono ?_; rintro e w2 ⟨rfl, h', c⟩))
            replace c := (Chg.refl _ wr).drew.trans c
            clear HC HK
            replace cc := cc.new HG.out c
            clear c h hS hv0
            have ho1 := hown.same hk
            replace hv := (congrArg Sl.v hk).trans hv
            have ho := ho1
            clear hk
            go_wp2_with fail
            refine (get_yes h' hB' ho).mono ?_
            rintro e w3 ⟨rfl, c⟩
            replace cc := cc.trans c
            replace h' := h'.grow c
            clear c
            rw [hv]
            go_wp2
            go_roundw
            case rel => exact ⟨k + 1, S', by simp, by omega, h', hB'', ho, hv, cc⟩
            case measure => simp [intOf]; omega
        · have q3 : (K == 3) = false := by simpa using h3
          by_cases h4 : K = 4
          · subst h4
            by_cases hH : H = 1
            · subst hH
              have hB'' := hB.mono (show k ≤ k + 1 by omega)
              clear hv0
              go_wp2_with fail
              refine (get_yes h hB0 hown).mono ?_
              rintro e w3 ⟨rfl, c⟩
              replace cc := cc.trans c
              replace h := h.grow c
              clear c
              rw [hv]
              go_wp2
              go_roundw
              case rel => exact ⟨k + 1, S, by simp, by omega, h, hB'', hown, hv, cc⟩
              case measure => simp [intOf]; omega
            · have qH : (H != 1) = true := by simpa using hH
              obtain ⟨z, S', hS, HC⟩ := drop_any hB0 w2
              replace HC := hide HC
              have hk := hS.keeps hown (Ne.symm hH)
              have hB' := (hS.bd hB).mono (show k + 1 ≤ 1000000 by omega)
              have hB'' := hS.bd hB
              clear hH h1 h3
              go_wp2_with fail
              refine (HC.out _ _ h).mono ?_
              rintro e w2 ⟨rfl, h', c⟩
              clear HC
              replace cc := cc.new HG.out c
              clear c h hS hv0
              have ho1 := hown.same hk
              replace hv := (congrArg Sl.v hk).trans hv
              have ho := ho1
              clear hk
              go_wp2_with fail
              refine (get_yes h' hB' ho).mono ?_
              rintro e w3 ⟨rfl, c⟩
              replace cc := cc.trans c
              replace h' := h'.grow c
              clear c
              rw [hv]
              go_wp2
              go_roundw
              case rel => exact ⟨k + 1, S', by simp, by omega, h', hB'', ho, hv, cc⟩
              case measure => simp [intOf]; omega
          · have q4 : (K == 4) = false := by simpa using h4
            have hB'' := hB.mono (show k ≤ k + 1 by omega)
            clear hv0
            go_wp2_with fail
            refine (get_yes h hB0 hown).mono ?_
            rintro e w3 ⟨rfl, c⟩
            replace cc := cc.trans c
            replace h := h.grow c
            clear c
            rw [hv]
            go_wp2
            go_roundw
            case rel => exact ⟨k + 1, S, by simp, by omega, h, hB'', hown, hv, cc⟩
            case measure => simp [intOf]; omega
    · obtain rfl : k = len := by omega
      go_wp2_with fail
      refine (set_yes h hB0 hown _).mono ?_
      rintro e w2 ⟨rfl, h', c⟩
      replace cc := cc.new HG.out c
      go_wp2
      go_ret
      exact ⟨rfl, cc.below (fun _ _ h => h) (Nat.le_refl _)⟩

theorem walk (a : Option Addr) (len cap : Nat) (rows : List (List Value)) (x : Int) (w : World) (hr : IsOps w a len cap rows) (hx : (Lit.int .i64 x).wf = true) :
    Calls Try.prog 8 #[.slice a len cap, .int .i64 x] w fun e w' => e = .returned (.bool true) ∧ Below w.heap.size w w' := by
  by_cases hl : 300 < len
  · exact walk_long a len cap x w hl
  · exact walk_short a len cap rows x w (by omega) hr

theorem own : ownKnob Try.prog.godebug = none := by kernel_rfl
theorem laidOut : laidOutB Try.prog = true := by kernel_rfl

set_option maxRecDepth 100000 in
theorem lifted (os : Os) (started : os.Started) (H : Type) (enc : TypeId × Value → H) :
    ReturnsInHanded {} Try.checked os 8 .any (Rows.handleKeepsSpec.pre6 enc Try.prog Try.f8 Rows.handleKeepsRow.domain false) (Rows.handleKeepsSpec.post enc Try.prog Try.f8 false true false false) := by
  refine returnsInHanded_of_change (C := Try.checked) own started (by kernel_rfl) Try.func8
    (ChangeSpec.witness6 (enc := enc) (C := Try.checked) false ⟨#[], #[.slice none 0 0, .int .i64 0], []⟩ 8 (by kernel_rfl) (by kernel_rfl) (by kernel_rfl) (by kernel_rfl)) ?_
  intro W base args ds gs before hval0 hW hcnd _
  have hval : ∀ (j : Nat) t v, Try.f8.params[j]? = some t → args[j]? = some v → Value.okWide Try.prog W .any base t v := hval0
  have hW' := hW
  obtain ⟨p, q, hA0, hV, rfl, hfz, hnd⟩ := hW
  have hA : DataW.TrodAll enc Try.prog W 0 (fun _ => true) true Try.f8.params.toList args.toList ds p := hA0
  rw [Try.params8] at hA hval
  obtain ⟨v0, vs0, d0, ds0, p0, q0, hargs, rfl, rfl, h0, r0⟩ := trodAll_cons hA
  obtain ⟨v1, vs1, d1, ds1, p1, q1, rfl, rfl, rfl, h1, r1⟩ := trodAll_cons r0
  obtain ⟨rfl, rfl, rfl⟩ := trodAll_nil r1
  obtain rfl : args = #[v0, v1] := by cases args; simp_all
  obtain ⟨rfl, rfl⟩ := trodVars_none hV
  have k0 := h0
  have lt0 : ∀ x ∈ p0, x.block < W.heap.size := by obtain ⟨m, hm⟩ := k0; exact DataW.trod_lt m _ _ _ hm
  obtain ⟨a0, len0, cap0, rows0, rfl, w0⟩ := open_ops (hval 0 22 v0 rfl rfl) h0
  obtain ⟨a1, rfl, rfl, rfl, w1⟩ := open_int Try.underlying3 (hval 1 3 v1 rfl rfl) h1
  clear hA0 hval0
  refine (walk a0 len0 cap0 rows0 a1 W w0 w1).mono fun e W' ⟨he, bel⟩ => ?_
  subst he
  exact ⟨_, rfl, _, _, _, [], _, [], hW', trodAll_mk1 (shut_bool Try.underlying4 _), (trodAll_cons_mk (Below.trod laidOut (by kernel_rfl) (of_decide_eq_true (by kernel_rfl)) k0 bel lt0) (trodAll_cons_mk (shut_int Try.underlying3 w1) trodAll_mk0)), rfl, bel.frame _, fun h => by cases h⟩

theorem over : Rows.handleKeepsRow.holds Try.pinned (OpenSpec.ofChange Rows.handleKeepsSpec) :=
  OpenClaim.holds_of_wide 8 Try.f8 rfl rfl rfl rfl rfl rfl rfl ⟨rfl, rfl, rfl, rfl, rfl⟩ rfl rfl rfl rfl rfl (by kernel_rfl) Try.func8 (by kernel_rfl)
    (of_decide_eq_true (by kernel_rfl)) (by unfold Func.isWrapper; first | (rw [if_pos (by decide +kernel)]; kernel_rfl) | (rw [if_neg (by decide +kernel)]; exact ⟨rfl, rfl⟩))
    (fun os started H enc _ => lifted os started H enc)

/-- The statement. -/
theorem proved : Rows.HandleKeepsSaid := over
#print axioms proved
end Go.Proofs.Ytmklmoahkcekiaa.handleKeeps

