/- Are calls few enough; is a number among some; are two nodes alike. Conditions: none. -/
import Derived.Test.YtjofdamobnemcaaL9Ops
import Derived.Test.YtjofdamobnemcaaL9Keep
namespace Go.Proofs.Ytjofdamobnemcaa.L9
open Go.ChangeShapes Go.WideShapes Go.ChangeAt Go.RowKit
set_option linter.unusedVariables false
def fewB (l : List Oq) : Bool := decide (l.length ≤ 100) && l.all fun o => decide (o.ll ≤ 100)
section
variable {w : World} {a : Option Addr} {len cap : Nat} {l : List Oq} {zs : List Int}
theorem fewB_take {k : Nat} (h : k < l.length) : (l.take (k + 1)).all (fun o => decide (o.ll ≤ 100)) = ((l.take k).all (fun o => decide (o.ll ≤ 100)) && decide ((l.getD k o0).ll ≤ 100)) := by
  rw [List.take_add_one, List.getElem?_eq_getElem h, List.all_append, List.getD_eq_getElem?_getD, List.getElem?_eq_getElem h]
  simp
theorem has_take {k : Nat} (h : k < zs.length) (x : Int) : hasB (zs.take (k + 1)) x = (hasB (zs.take k) x || decide (zs.getD k 0 = x)) := by
  rw [hasB_step zs k h, Bool.or_comm]
  simp [eq_comm]
set_option maxRecDepth 100000 in
set_option maxHeartbeats 1000000 in
theorem has_any (h : IsRow .i64 w a len cap zs) (x : Int) (hl : len ≤ 1000000) : Calls Try.prog 27 #[.slice a len cap, .int .i64 x] w fun e w' => e = .returned (.bool (hasB zs x)) ∧ ∃ n, w' = w.drewN n := by
  have HA := hide h
  have HLN := hide h.1
  clear h
  go_enter Try.func27, Try.ntmps27
  go_wp2_with fail
  go_loopw [8] (fun c wr => ∃ k q : Nat, k ≤ len ∧ c = .int .i64 k ∧ hasB (zs.take k) x = false ∧ wr = w.drewN q) (fun c _ => len - (Go.RowKit.intOf c).toNat)
  case atStart => exact ⟨0, 0, Nat.zero_le _, rfl, rfl, rfl⟩
  case round =>
    obtain ⟨k, q, hk, rfl, hall, rfl⟩ := hrel
    rcases Nat.eq_or_lt_of_le hk with rfl | hlt
    · have q2 : decide ((k : Int) < k) = false := by simp
      have HR := hide (show hasB zs x = false by rw [← hall, ← HLN.out, List.take_length])
      clear hall
      go_wp2
      go_ret
      exact ⟨ret_bool HR.out.symm, _, rfl⟩
    · have q2 : decide ((k : Int) < len) = true := by simp; omega
      obtain ⟨ax, rfl, hc, hwf⟩ := HA.out.at_ hlt
      have hst := has_take (zs := zs) (k := k) (by rw [HLN.out]; exact hlt) x
      rw [hall, Bool.false_or] at hst
      have hw : IntKind.i64.wrap ((k : Int) + 1) = ((k + 1 : Nat) : Int) := (IntWalk.i64_in _ (by omega)).trans (by omega)
      have HK := hide hlt
      have xk : (w.drewN q).cell? (ax.add k) = some (.int .i64 (zs.getD k 0)) := hc
      by_cases hl : zs.getD k 0 = x
      · have q3 : (zs.getD k 0 == x) = true := by simpa using hl
        have HR := hide (show hasB zs x = true by
          unfold hasB
          rw [List.any_eq_true]
          refine ⟨zs.getD k 0, ?_, by simpa using hl⟩
          rw [List.getD_eq_getElem?_getD, List.getElem?_eq_getElem (by rw [HLN.out]; exact hlt)]
          exact List.getElem_mem _)
        clear hst hall hwf hl hc
        generalize zs.getD k 0 = u at *
        go_wp2
        go_ret
        exact ⟨ret_bool HR.out.symm, _, rfl⟩
      · have q3 : (zs.getD k 0 == x) = false := by simpa using hl
        have HR := hide (show hasB (zs.take (k + 1)) x = false by rw [hst]; simpa using hl)
        clear hst hall hwf hl hc
        generalize zs.getD k 0 = u at *
        go_wp2
        go_roundw
        case rel => exact ⟨k + 1, _, HK.out, rfl, HR.out, rfl⟩
        case measure => have := HK.out; simp [Go.RowKit.intOf]; omega
end
end Go.Proofs.Ytjofdamobnemcaa.L9
