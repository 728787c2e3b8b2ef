/- Graphs: Words: the sum over all nodes. Conditions: a graph has fewer than 1000000 nodes. -/
import Derived.Test.YtcinielgigdhmaaL9Rg
import Derived.Test.YtcinielgigdhmaaL9Sp
import Derived.Test.YtcinielgigdhmaaL9Call
namespace Go.Proofs.Ytcinielgigdhmaa.L9
open Go.ChangeShapes Go.WideShapes Go.ChangeAt Go.RowKit Go.Maps
open Go.Proofs.Ytcinielgigdhmaa.L5 (Cl clV rtB Tb clAt shX shR shD woV hoB IsCls newX isRf)
set_option linter.unusedVariables false
section
variable {w : World} {z p m tb : Nat} {S : Nat → Prop} {f : Int → Option Nat} {ow : Nat → Int} {cs : List Cl} {L : List Nd}
/-- Who has come. -/
def came (left : Int → Bool) (y : Nd) : Bool := !left y.id
theorem came_start (h : Gr w z S p m tb f ow cs L) : L.filter (came fun x => (f x).isSome) = [] := by
  refine List.filter_eq_nil_iff.2 fun y hy => ?_
  obtain ⟨b, hb, _⟩ := h.nds y hy
  simp [came, hb]
theorem came_end {left : Int → Bool} (hl : ∀ x, left x = false) : L.filter (came left) = L := List.filter_eq_self.2 fun y _ => by simp [came, hl]
theorem came_step (left : Int → Bool) (x : Int) : came (fun y => left y && !decide (y = x)) = fun y => came left y || decide (y.id = x) := by
  funext y
  unfold came
  by_cases e : y.id = x <;> cases hl : left y.id <;> simp [e, hl]
theorem wos_came (h : Gr w z S p m tb f ow cs L) {left : Int → Bool} {x : Nd} (hx : x ∈ L) (hp : left x.id = true) : wos (L.filter (came fun y => left y && !decide (y = x.id))) = wos (L.filter (came left)) + x.wo := by
  rw [came_step]
  exact wos_step h.srt (p := fun i => !left i) hx (by simp [hp])
theorem wos_bd (h : Gr w z S p m tb f ow cs L) (left : Int → Bool) : wos (L.filter (came left)) ≤ 62 * L.length := by
  refine Nat.le_trans (wos_le (cs := cs) fun x hx => h.ok x (List.mem_filter.1 hx).1) ?_
  have := List.length_filter_le (came left) L
  omega
set_option maxRecDepth 100000 in
set_option maxHeartbeats 1000000 in
theorem words_g (h : Gr w z S p m tb f ow cs L) (hl : L.length < 1000000) :
    Calls Try.prog 28 #[ptr p] w fun e w' => e = .returned (.int .i64 (wos L)) ∧ Grow w w' := by
  have HG := hide h
  have hM := h.map
  have HCS := hide (came_start h)
  have HL := hide hl
  clear h hl
  go_enter Try.func28, Try.ntmps28
  go_wp2_with fail
  refine (all_g HG.out).mono ?_
  rintro e w' ⟨rfl, rfl⟩
  go_wp2_with (first
    | (at_range; refine rg_range rfl _ rfl rfl hM ?_; intro w0 cnt0 hr0 hg0 hs0)
    | go_in)
  go_frame
  go_loopw [3] (fun v wr => ∃ (left : Int → Bool) (cnt : Nat), Rg wr m w.heap.size f left cnt ∧ v = .int .i64 (wos (L.filter (came left))) ∧ Grow w wr) (fun _ wr => wr.rangeLeft m w.heap.size)
  case atStart => exact ⟨_, _, hr0, by rw [HCS.out]; rfl, hg0⟩
  case round =>
    clear hr0 hg0 hs0 hM
    obtain ⟨left, cnt, hrg, rfl, hgw⟩ := hrel
    go_wp2_with (first
      | (at_next; refine rg_next rfl _ rfl rfl hrg ?_ ?_)
      | go_in)
    · intro hl0
      go_wp2
      go_ret
      exact ⟨by rw [came_end hl0]; rfl, hgw⟩
    · intro k b w1 cnt1 hk hlk hfk hrg1 hlt hc1 hs1 hen
      have g1 : Grow w w1 := hgw.step hc1 (fun i hi e => by omega)
      have hG1 := HG.out.grow g1
      obtain ⟨x, hx, rfl⟩ := hG1.no k (by rw [hfk]; simp)
      obtain ⟨b', hb', br, bd, hx'⟩ := hG1.nds x hx
      obtain rfl : b' = b := by rw [hfk] at hb'; injection hb' with hb'; exact hb'.symm
      have c5 := hx'.cells.2.2.2.2.2
      have hst := wos_came HG.out hx hlk
      have hbd := wos_bd HG.out (fun y => left y && !decide (y = x.id))
      have HL2 := HL.out
      rw [hst] at hbd
      have hw : IntKind.i64.wrap (((wos (L.filter (came left)) : Nat) : Int) + (x.wo : Int)) = ((wos (L.filter (came left)) + x.wo : Nat) : Int) := (IntWalk.i64_in _ (by omega)).trans (by omega)
      have HST := hide hst
      have HM := hide (show w1.rangeLeft m w.heap.size < wr.rangeLeft m w.heap.size by rw [hrg1.left_eq, hrg.left_eq]; exact hlt)
      have HR := hide hrg1
      clear hst hbd hx' hb' hfk hG1 hrg hrg1 hlt hc1 hs1 hlk hgw HL2
      generalize wos (L.filter (came left)) = q at *
      generalize x.wo = u at *
      go_wp2
      go_roundw
      case rel => exact ⟨_, _, HR.out, by rw [HST.out, Int.natCast_add], g1⟩
      case measure => exact HM.out
end
end Go.Proofs.Ytcinielgigdhmaa.L9
