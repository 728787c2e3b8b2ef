/- For all arguments MarkAsks answers true: it is asked of places alone, of each that is marked, and of none that is not. Conditions: the table of math/bits.TrailingZeros64 is as the program's text lays it, which the card ties. -/
import Derived.Test.YtaddomgjjemglaaDoorL14F
import Derived.Test.YtaddomgjjemglaaDoorL14A
import Derived.Test.YtaddomgjjemglaaDoorL14Mp
import Derived.Maps.RangeWalk
import Derived.Test.YtaddomgjjemglaaDoorCards
import Derived.Test.YtaddomgjjemglaaDoorTie
import Derived.SevenTiedAt
import Derived.Stop.Joined
import Derived.ShutString
namespace Go.Proofs.YtaddomgjjemglaaDoor.markAsks
open Go.ChangeShapes Go.WideShapes Go.ChangeAt Go.RowKit Go.Proofs.YtaddomgjjemglaaDoor.L14
open Go.Proofs.YtaddomgjjemglaaDoor.L3 (Ms Tab ms_set ms_len ms_has ms_next ms_count ms_new clamp ptr exB exB_in exB_out exB_nat setI cnt cnt_le cnt_congr cnt_on cnt_none upd upd_at upd_ne hasI has_is count_is nx nx_cases tab_of_laid)
set_option linter.unusedVariables false

/-- Who was asked, as the map says it. -/
def fA (A : Nat → Bool) (x : Int) : Option Bool := if 0 ≤ x ∧ A x.toNat = true then some true else none
theorem fA_no : fA (fun _ => false) = fun _ => none := by
  funext x
  simp [fA]
theorem fA_upd (A : Nat → Bool) (j : Nat) : (fun y : Int => if y = (j : Int) then some true else fA A y) = fA (upd A j true) := by
  funext y
  unfold fA
  by_cases h : y = (j : Int)
  · subst h
    rw [if_pos rfl, if_pos ⟨by omega, upd_at _ _ _⟩]
  · rw [if_neg h]
    by_cases h0 : 0 ≤ y
    · have e : y.toNat ≠ j := by omega
      rw [upd_ne e]
    · rw [if_neg (fun h => h0 h.1), if_neg (fun h => h0 h.1)]
/-- What is marked below j, in order. -/
def allL (S : Nat → Bool) (j : Nat) : List Int := ((List.range j).filter S).map fun i : Nat => (i : Int)
theorem allL_cnt (S : Nat → Bool) (n : Nat) : (allL S n).length = cnt S n := by
  induction n with
  | zero => rfl
  | succ n ih =>
    unfold allL at *
    rw [List.range_succ, List.filter_append, List.map_append, List.length_append, ih]
    simp only [cnt]
    cases h : S n <;> simp [h]
theorem allL_nodup (S : Nat → Bool) (n : Nat) : (allL S n).Nodup := by
  have h : (allL S n).Pairwise (· < ·) := List.pairwise_map.2 (((List.pairwise_lt_range (n := n)).sublist List.filter_sublist).imp fun h => by omega)
  exact h.imp fun h => by omega
theorem in64 {x : Int} (h : -9223372036854775808 ≤ x ∧ x ≤ 9223372036854775807) : In64 x := (show (Lit.int .i64 x).wf = true by simp [Lit.wf, IntKind.min, IntKind.max, IntKind.signed, IntKind.bits]; omega)
theorem cell_map {w : World} {m : Nat} {x : Array _} {y : Nat} (h : w.heap[m]? = some (.map x y)) {p : Addr} {v : Value} (hc : w.cell? p = some v) : p.block ≠ m := by
  rintro rfl
  simp [World.cell?, h] at hc
theorem ls_chg {w W : World} {B m len : Nat} {a : Option Addr} {L : List (List Int)} {x : Array _} {y : Nat} (h : IsLs B w a len L) (hm : w.heap[m]? = some (.map x y)) (c : Chg (· = m) w W) : IsLs B W a len L := by
  refine ⟨h.1, fun h0 => ?_⟩
  obtain ⟨x, e, hx⟩ := h.2 h0
  refine ⟨x, e, fun i hi => ?_⟩
  obtain ⟨b, d, h1, h2, h3⟩ := hx i hi
  refine ⟨b, d, c.cell h1 (cell_map hm h1), ⟨h2.1, fun hn => ?_⟩, h3⟩
  obtain ⟨z, e2, hz⟩ := h2.2 hn
  exact ⟨z, e2, fun i hi => c.cell (hz i hi) (cell_map hm (hz i hi))⟩
theorem allL_mem {S : Nat → Bool} {n : Nat} (h : ∀ j, S j = true → j < n) (x : Int) : fA S x ≠ none ↔ x ∈ allL S n := by
  unfold fA allL
  constructor
  · intro hx
    by_cases h1 : 0 ≤ x ∧ S x.toNat = true
    · exact List.mem_map.2 ⟨x.toNat, List.mem_filter.2 ⟨List.mem_range.2 (h _ h1.2), h1.2⟩, by omega⟩
    · rw [if_neg h1] at hx
      exact absurd rfl hx
  · intro hx
    obtain ⟨i, hi, rfl⟩ := List.mem_map.1 hx
    have := (List.mem_filter.1 hi).2
    rw [if_pos ⟨by omega, this⟩]
    exact fun e => by cases e
/-- It was asked of A: so says the map in block m, and nothing else has changed. -/
structure As (w : World) (m n : Nat) (A : Nat → Bool) (W : World) : Prop where
  lt : ∀ j, A j = true → j < n
  ch : Chg (· = m) w W
  mp : ∃ N, Mg eB W m N (fA A)
theorem As.len {w W : World} {m n N : Nat} {A : Nat → Bool} (h : As w m n A W) (hm : Mg eB W m N (fA A)) : N = cnt A n := by
  rw [hm.size_eq (allL_mem h.lt) (allL_nodup A n), allL_cnt]
section
variable {w W : World} {B b mb m len cap j n : Nat} {a : Option Addr} {L : List (List Int)} {A : Nat → Bool}
set_option maxRecDepth 100000 in
set_option maxHeartbeats 1000000 in
theorem asks_any (hmb : w.cell? ⟨mb, 0, none⟩ = some (.map (some m))) (hb : w.cell? ⟨b, 0, none⟩ = some (.slice a len cap)) {xm : Array _} {ym : Nat} (hmm : w.heap[m]? = some (.map xm ym)) (h : IsLs B w a len L) (hn : n ≤ 4096) (hA : As w m n A W) (hj : j < n) :
    Calls Tryd.prog 20 #[.int .i64 j, ptr mb, ptr b] W fun e W' => ∃ a' c', e = .returned (.slice a' (eL L j).length c') ∧ L1.Rd W' a' (eL L j).length (eL L j) ∧ (0 < (eL L j).length → ∀ x : Addr, a' = some x → x.block < B) ∧ As w m n (upd A j true) W' ∧ Chg (· = m) W W' := by
  have eg : ∀ args w, (callFunc 31 args).run Tryd.prog w = .ok (.enter 31 args) w := enters_of Tryd.func31 (by kernel_rfl) rfl
  obtain ⟨N, hm⟩ := hA.mp
  have hNl := hA.len hm
  have hcl := cnt_le A n
  have hx : In64 (j : Int) := in64 (by omega)
  obtain ⟨W1, hup, hm1, hc1⟩ := hm.put eB_ok (by unfold maxLen; omega) hx true
  rw [fA_upd] at hm1
  have c1 := Chg.cell hA.ch hmb (cell_map hmm hmb)
  have c2 := Chg.cell hc1 (Chg.cell hA.ch hb (cell_map hmm hb)) (cell_map hmm hb)
  have HL1 := hide (show IsLs B W1 a len L from ls_chg h hmm (hA.ch.trans hc1))
  have HA1 := hide (show As w m n (upd A j true) W1 from ⟨fun i hi => by
    rcases upd_iff.1 hi with rfl | hi
    · exact hj
    · exact hA.lt i hi, hA.ch.trans hc1, _, hm1⟩)
  have HC1 := hide hc1
  have hup' : (Instr.mapUpdate 38 (.map (some m)) (.int .i64 (j : Int)) (.bool true)).run Tryd.prog W = .ok () W1 := hup
  clear hmb hb hmm h hn hA hj hm hNl hcl hx hup hm1 hc1
  go_enter Tryd.func20, Tryd.ntmps20
  go_wp2_with fail
  refine (by_is _).mono ?_
  rintro e w2 ⟨b1, rfl, hb1, d2, -⟩
  have HB1 := hide hb1
  have HD2 := hide d2
  clear hb1 d2
  go_wp2_with fail
  refine (byF_any HB1.out (HL1.out.grow HD2.out) j).mono ?_
  rintro e w3 ⟨a3, c3, rfl, h3, h4, rfl⟩
  have H3 := hide h3
  have H4 := hide h4
  clear h3 h4
  obtain ⟨q, hq⟩ : ∃ q, (eL L j).length = q := ⟨_, rfl⟩
  have HQ := hide hq
  rw [hq] at H3 H4 ⊢
  clear hq
  go_wp2
  go_returns
  rw [HQ.out]
  exact ⟨_, _, rfl, H3.out, H4.out, ⟨HA1.out.lt, HA1.out.ch.step HD2.out fun _ _ e => e.elim, HA1.out.mp.imp fun N h => h.grow HD2.out⟩, HC1.out.step HD2.out fun _ _ e => e.elim⟩
end
section
variable {w : World} {m r cnt : Nat} {S : Nat → Bool} {left : Int → Bool} {ops : Array Oper} {rest : List Oper} {o : Oper} {a : Act} {Q : Exit → Act → World → Prop}
/-- The step of a range over who was asked. -/
theorem rg_asked (hg : o.guard = none) (it : Operand) (hop : o.op = Op.next it false) (hit : a.eval it = .pointer (some ⟨r, 0, none⟩)) (h : L14.Rg eB w m r (fA S) left cnt)
    (hDone : (∀ x, left x = false) → wpList Tryd.prog ops Q rest (a.put o.dst (.tuple #[.bool false])) w)
    (hMore : ∀ (x : Int) (w' : World) (cnt' : Nat), In64 x → left x = true → (0 ≤ x ∧ S x.toNat = true) → L14.Rg eB w' m r (fA S) (fun y => left y && !decide (y = x)) cnt' → cnt' < cnt → Chg (· = r) w w' → w'.heap.size = w.heap.size →
      (Instr.entry (.pointer (some ⟨r, 0, none⟩))).run Tryd.prog w' = .ok (.tuple #[.int .i64 x, .bool true]) w' → wpList Tryd.prog ops Q rest (a.put o.dst (.tuple #[.bool true, .int .i64 x, .bool true])) w') :
    wpList Tryd.prog ops Q (o :: rest) a w := by
  refine rg_next eB_ok hg it hop hit h hDone fun x b w' cnt' h1 h2 h3 h4 h5 h6 h7 h8 => ?_
  have hx : (0 ≤ x ∧ S x.toNat = true) ∧ b = true := by
    unfold fA at h3
    split at h3
    · rename_i e
      injection h3 with h3
      exact ⟨e, h3.symm⟩
    · cases h3
  obtain ⟨hx, rfl⟩ := hx
  exact hMore x w' cnt' h1 h2 hx h4 h5 h6 h7 h8
end
set_option maxRecDepth 100000 in
set_option maxHeartbeats 2000000 in
theorem walk (places : Int) (a : Option Addr) (len cap : Nat) (L : List (List Int)) (a2 : Option Addr) (k cap2 : Nat) (zs : List Int) (room : Int) (w : World) (ht : Tab w) (w0 : (Lit.int .i64 places).wf = true) (hl : IsLs w.heap.size w a len L) (hz : IsRow .i64 w a2 k cap2 zs) (w3 : (Lit.int .i64 room).wf = true) :
    Calls Tryd.prog 6 #[.int .i64 places, .slice a len cap, .slice a2 k cap2, .int .i64 room] w fun e w' => e = .returned (.bool true) ∧ Below w.heap.size w w' := by
  have HT := hide ht
  have HL := hide hl
  have HB0 := hide (And.intro (show (w.alloc (.cells #[.slice a len cap] 22)).cell? ⟨w.heap.size, 0, none⟩ = some (.slice a len cap) from (Blk.new w _ [.slice a len cap]).cell 0) (Grow.box w (.cells #[.slice a len cap] 22)))
  clear w0 w3
  cases hf : fewB L k with
  | false =>
    have HF := hide hf
    clear ht hl hz hf
    go_enter Tryd.func6, Tryd.ntmps6
    go_wp2_with fail
    generalize w.alloc (.cells #[.slice a len cap] 22) = w1 at *
    obtain ⟨bx, hbx⟩ : ∃ bx, w.heap.size = bx := ⟨_, rfl⟩
    rw [hbx] at HB0 ⊢
    clear hbx
    go_wp2_with fail
    refine (awake_any (HT.out.chg HB0.out.2 id)).mono ?_
    rintro e wa ⟨rfl, ca⟩
    have HCA := hide (HB0.out.2.trans ca)
    have HBA := hide (Grow.cell ca HB0.out.1)
    have HTA := hide (HT.out.chg HCA.out id)
    have HLA := hide (HL.out.grow HCA.out)
    have hba := HBA.out
    clear ca HB0
    go_wp2_with fail
    refine (few_any HLA.out).mono ?_
    rintro e wb ⟨rfl, rfl⟩
    rw [HF.out]
    go_wp2_with fail
    refine (awake_any HTA.out).mono ?_
    rintro e wc ⟨rfl, cc⟩
    go_wp2
    go_returns
    exact ⟨rfl, (HCA.out.trans cc).under⟩
  | true =>
    by_cases hp : places > 300
    · have q0 : decide (places > 300) = true := decide_eq_true hp
      have HF := hide hf
      clear ht hl hz hf hp
      go_enter Tryd.func6, Tryd.ntmps6
      go_wp2_with fail
      generalize w.alloc (.cells #[.slice a len cap] 22) = w1 at *
      obtain ⟨bx, hbx⟩ : ∃ bx, w.heap.size = bx := ⟨_, rfl⟩
      rw [hbx] at HB0 ⊢
      clear hbx
      go_wp2_with fail
      refine (awake_any (HT.out.chg HB0.out.2 id)).mono ?_
      rintro e wa ⟨rfl, ca⟩
      have HCA := hide (HB0.out.2.trans ca)
      have HBA := hide (Grow.cell ca HB0.out.1)
      have HTA := hide (HT.out.chg HCA.out id)
      have HLA := hide (HL.out.grow HCA.out)
      have hba := HBA.out
      clear ca HB0
      go_wp2_with fail
      refine (few_any HLA.out).mono ?_
      rintro e wb ⟨rfl, rfl⟩
      rw [HF.out]
      go_wp2_with fail
      refine (awake_any HTA.out).mono ?_
      rintro e wc ⟨rfl, cc⟩
      go_wp2
      go_returns
      exact ⟨rfl, (HCA.out.trans cc).under⟩
    · have q0 : decide (places > 300) = false := decide_eq_false hp
      have hk : k ≤ 100 := (of_decide_eq_true hf).2.1
      have HF := hide hf
      have HZ := hide (rd_row hz)
      obtain ⟨n, hn⟩ : ∃ n, clamp places = n := ⟨_, rfl⟩
      obtain ⟨S, hS⟩ := ex_rch n (eL L) zs
      obtain ⟨r, hr⟩ : ∃ r : Nat, max room 1 = (r : Int) := ⟨(max room 1).toNat, by omega⟩
      have HN := hide hn
      have HN4 := hide (show n ≤ 4096 by rw [← hn]; unfold clamp; omega)
      have HS := hide hS
      have HR := hide hr
      have HK := hide (show k ≤ 1000000 by omega)
      clear ht hl hz hf hp hn hS hr hk
      go_enter Tryd.func6, Tryd.ntmps6
      go_wp2_with fail
      generalize w.alloc (.cells #[.slice a len cap] 22) = w1 at *
      obtain ⟨bx, hbx⟩ : ∃ bx, w.heap.size = bx := ⟨_, rfl⟩
      rw [hbx] at HB0 ⊢
      clear hbx
      go_wp2_with fail
      refine (awake_any (HT.out.chg HB0.out.2 id)).mono ?_
      rintro e wa ⟨rfl, ca⟩
      have HCA := hide (HB0.out.2.trans ca)
      have HBA := hide (Grow.cell ca HB0.out.1)
      have HTA := hide (HT.out.chg HCA.out id)
      have HLA := hide (HL.out.grow HCA.out)
      have hba := HBA.out
      clear ca HB0
      go_wp2_with fail
      refine (few_any HLA.out).mono ?_
      rintro e wb ⟨rfl, rfl⟩
      rw [HF.out]
      have hmm : ∀ W : World, (Instr.makeMap 38 .none).run Tryd.prog W = .ok (.map (some W.heap.size)) (W.alloc (.map #[] 0)) := fun W => by kernel_rfl
      have h1 := Mg.made eB wa
      have h2 := Blk.new (wa.alloc (.map #[] 0)) 38 [.map (some wa.heap.size)]
      have e1 : (wa.alloc (.map #[] 0)).heap.size = wa.heap.size + 1 := by simp
      rw [e1] at h2
      have gM : Grow wa (wa.alloc (.map #[] 0)) := Grow.box _ _
      have gB := Grow.box (wa.alloc (.map #[] 0)) (.cells [.map (some wa.heap.size)].toArray 38)
      have HMG := hide (h1.grow gB)
      have HMB := hide (h2.cell 0)
      have HG2 := hide (gM.trans gB)
      have HSZ := hide (show w.heap.size ≤ wa.heap.size ∧ wa.heap.size < ((wa.alloc (.map #[] 0)).alloc (.cells [.map (some wa.heap.size)].toArray 38)).heap.size from ⟨HCA.out.size, by simp; omega⟩)
      clear h1 h2 e1 gM gB
      go_wp2_with fail
      clear hmm hba
      rw [show ((wa.alloc (.map #[] 0)).alloc (.cells [.map (some wa.heap.size)].toArray 38)) = ((wa.alloc (.map #[] 0)).alloc (.cells #[.map (some wa.heap.size)] 38)) from rfl] at HMG HMB HG2 HSZ
      generalize ((wa.alloc (.map #[] 0)).alloc (.cells #[.map (some wa.heap.size)] 38)) = w2 at *
      generalize wa.heap.size + 1 = mb at *
      generalize wa.heap.size = m at *
      have HC2 := hide (HCA.out.trans HG2.out)
      obtain ⟨xm, ym, hmap⟩ := HMG.out.map_
      have HT2 := hide (HT.out.chg HC2.out id)
      have HL2 := hide (HL.out.grow HC2.out)
      have HB2 := hide (Grow.cell HG2.out HBA.out)
      have HMM := hide hmap
      have HE := hide (show Ed w2 n (eL L) (fun A W => As w2 m n A W) (· = m) 20 #[ptr mb, ptr bx] from
        { eg := enters_of Tryd.func20 (by kernel_rfl) rfl
          lt := fun i e => by rw [e]; exact HSZ.out.2
          tb := fun e => cell_map HMM.out (HT2.out 0 (by decide)) e
          st := fun A W W' h d => ⟨h.lt, h.ch.step d fun i hi e => absurd hi (Nat.not_lt.2 e), h.mp.imp fun N hm => hm.chg d (Nat.not_le.2 HSZ.out.2)⟩
          go := fun A W j hj h _ => (asks_any HMB.out HB2.out HMM.out HL2.out HN4.out h hj).mono fun e W' ⟨a', c', he, h1, h2, h3, h4⟩ => ⟨a', c', he, h1, fun h0 x e => .inl (Nat.lt_of_lt_of_le (h2 h0 x e) HC2.out.size), h3, h4⟩
          len := fun j _ => Nat.le_trans (eL_len HF.out j) (by decide) })
      have HI0 := hide (show As w2 m n (fun _ => false) w2 from ⟨(fun j h => by cases h), Chg.refl _ _, 0, fA_no ▸ HMG.out⟩)
      clear hmap HTA HLA HCA HBA HG2 HMG
      refine (reach_any HE.out HT2.out (HZ.out.grow HC2.out) HK.out HI0.out HS.out HN.out HR.out).mono ?_
      rintro e w3 ⟨p, g, rn, rfl, hms, -, -, -, has, -⟩
      obtain ⟨N, hmg⟩ := has.mp
      have hNc := has.len hmg
      subst hNc
      have HM3 := hide hms
      have HMG3 := hide hmg
      have HAS := hide (And.intro has.lt has.ch)
      have hmb := Chg.cell has.ch HMB.out (cell_map HMM.out HMB.out)
      have HMB3 := hide hmb
      have hlen : (Builtin.len_ #[38] 3 #[.map (some m)]).run Tryd.prog w3 = .ok (.int .i64 ((cnt S n : Nat) : Int)) w3 := hmg.len eB_ok _
      clear hms has hmg HI0 HE
      go_wp2_with fail
      refine (ms_count HM3.out).mono ?_
      rintro e w4 ⟨rfl, c4⟩
      have HM4 := hide (HM3.out.grow c4)
      have HC4 := hide (HAS.out.2.step c4 fun _ _ e => e.elim)
      have hmb4 := Grow.cell c4 HMB3.out
      have hM' := HMG3.out.grow c4
      have HSZ4 := hide (Nat.le_trans HAS.out.2.size c4.size)
      clear c4 hlen hmb
      go_wp2_with (first
        | (at_range; refine rg_range eB_ok rfl _ rfl rfl hM' ?_; intro w5 cnt0 hr0 hg0 hs0)
        | go_in)
      go_frame
      obtain ⟨R0, hR0⟩ : ∃ R0, w4.heap.size = R0 := ⟨_, rfl⟩
      rw [hR0] at hr0 hs0 HSZ4 ⊢
      have HM5 := hide (HM4.out.grow hg0)
      have HPG := hide (show p < R0 ∧ g < R0 from ⟨by rw [← hR0]; exact HM4.out.plt, by rw [← hR0]; exact HM4.out.glt⟩)
      have HC5 := hide (show Grow w w5 from HC2.out.step (HC4.out.step hg0 fun _ _ e => e.elim) fun i hi e => by have := HSZ.out.1; omega)
      have HWR := hide (show w.heap.size ≤ R0 from by have := HC2.out.size; have := HSZ4.out; omega)
      clear hs0 hg0 hM' hmb4 hR0 HM4 HC4
      go_loopw [12] (fun _ wr => ∃ (left : Int → Bool) (cn : Nat), L14.Rg eB wr m R0 (fA S) left cn ∧ Ms wr p g n S ∧ Grow w wr) (fun _ wr => wr.rangeLeft m R0)
      case atStart => exact ⟨_, _, hr0, HM5.out, HC5.out⟩
      case round =>
        clear hr0 HM5 HC5
        obtain ⟨left, cn, hrg, hms, hg⟩ := hrel
        have HMS := hide hms
        have HG := hide hg
        clear hms hg
        go_wp2_with (first
          | (at_next; refine rg_asked rfl _ rfl rfl hrg ?_ ?_)
          | go_in)
        · intro hl0
          clear hrg
          go_wp2_with fail
          go_returns
          exact ⟨rfl, HG.out.under⟩
        · intro x w6 cnt1 hx hlx hx0 hxs hrg1 hlt hc1 hs1 hen
          have HLT := hide (show cnt1 < wr.rangeLeft m R0 from by rw [hrg.left_eq]; exact hlt)
          have HM6 := hide (HMS.out.chg hc1 (by have := HPG.out.1; omega) (by have := HPG.out.2; omega))
          have HG6 := hide (show Grow w w6 from HG.out.step hc1 fun i hi e => by have := HWR.out; omega)
          have HRG1 := hide hrg1
          have HX := hide (show hasI S n x = true from by
            unfold hasI
            rw [Bool.and_eq_true]
            refine ⟨?_, hxs⟩
            unfold exB
            have := HAS.out.1 _ hxs
            exact decide_eq_true ⟨hx0, by omega⟩)
          clear hrg hlx hx0 hxs hrg1 hlt hc1 hs1 hx
          go_wp2_with fail
          refine (has_is HM6.out HX.out).mono ?_
          rintro e w7 ⟨rfl, c7⟩
          have HM7 := hide (HM6.out.grow c7)
          have HG7 := hide (HG6.out.trans c7)
          have HRG7 := hide (HRG1.out.grow c7)
          clear c7 hen
          go_wp2

          exact ⟨⟨_, cnt1, HRG7.out, HM7.out, HG7.out⟩, by rw [HRG7.out.left_eq]; exact HLT.out⟩

theorem own : ownKnob Tryd.prog.godebug = none := by kernel_rfl
theorem laidOut : laidOutB Tryd.prog = true := by kernel_rfl
theorem door_met (os : Os) (args : Array Value) : laidMetH Tryd.prog Rows.markAsksRow.laid ((World.doorLaid Tryd.prog 400 os).forCall (fun _ _ => 0) ⟨#[], args, []⟩).memory :=
  laidMetH_of_parts3 (fuel := 8) (laidMet_of_run' 8 (by kernel_rfl) (by kernel_rfl)) (by kernel_rfl) (by kernel_rfl)

set_option maxRecDepth 100000 in
theorem lifted (os : Os) (started : os.Started) (H : Type) (enc : TypeId × Value → H) :
    ReturnsInHanded {} Tryd.checked os 6 .any (fun w args => (Rows.markAsksSpec.pre enc Tryd.prog Tryd.f6 [] false w args ∧ laidMetH Tryd.prog Rows.markAsksRow.laid w) ∧ sizedMet enc Tryd.prog Tryd.f6 (OpenSpec.ofChange Rows.markAsksSpec) false w args) (Rows.markAsksSpec.post enc Tryd.prog Tryd.f6 false true false false) := by
  refine returnsInHanded_of_change_and (C := Tryd.checked) (X := fun w _ => laidMetH Tryd.prog Rows.markAsksRow.laid w) (fun _ _ _ hh h => h.of_heap hh) own started (by kernel_rfl) Tryd.func6
    (ChangeSpec.witness_shaped (enc := enc) (C := Tryd.checked) (os := os) (X := fun w _ => laidMetH Tryd.prog Rows.markAsksRow.laid w) false (World.doorLaid Tryd.prog 400 os) #[.int .i64 0, .slice none 0 0, .slice none 0 0, .int .i64 0] 8 rfl (World.shaped_of_RefB (by kernel_rfl) (by kernel_rfl)) (by kernel_rfl) (by kernel_rfl) (by kernel_rfl) (door_met os _)) ?_
  intro W base args ds gs before hval0 hW _ _ hL _
  have hval : ∀ (j : Nat) t v, Tryd.f6.params[j]? = some t → args[j]? = some v → Value.okWide Tryd.prog W .any base t v := hval0
  have hW' := hW
  obtain ⟨p, q, hA0, hV, rfl, hfz, hnd⟩ := hW
  have hA : DataW.TrodAll enc Tryd.prog W 0 (fun _ => true) true Tryd.f6.params.toList args.toList ds p := hA0
  rw [Tryd.params6] at hA hval
  obtain ⟨v0, vs0, d0, ds0, p0, q0, hargs, rfl, rfl, h0, r0⟩ := trodAll_cons hA
  obtain ⟨v1, vs1, d1, ds1, p1, q1, rfl, rfl, rfl, h1, r1⟩ := trodAll_cons r0
  obtain ⟨v2, vs2, d2, ds2, p2, q2, rfl, rfl, rfl, h2, r2⟩ := trodAll_cons r1
  obtain ⟨v3, vs3, d3, ds3, p3, q3, rfl, rfl, rfl, h3, r3⟩ := trodAll_cons r2
  obtain ⟨rfl, rfl, rfl⟩ := trodAll_nil r3
  obtain rfl : args = #[v0, v1, v2, v3] := by cases args; simp_all
  obtain ⟨rfl, rfl⟩ := trodVars_none hV
  obtain ⟨a0, rfl, rfl, rfl, w0⟩ := open_int Tryd.underlying3 (hval 0 3 v0 rfl rfl) h0
  have k1 := h1
  have lt1 : ∀ x ∈ p1, x.block < W.heap.size := by obtain ⟨m, hm⟩ := k1; exact DataW.trod_lt m _ _ _ hm
  obtain ⟨a1, len1, cap1, L1, rfl, w1⟩ := open_lists (hval 1 22 v1 rfl rfl) h1
  obtain ⟨a2, len2, cap2, rfl⟩ := okWide_slice Tryd.underlying23 (hval 2 23 v2 rfl rfl)
  have k2 := h2
  have lt2 : ∀ x ∈ p2, x.block < W.heap.size := by obtain ⟨m, hm⟩ := k2; exact DataW.trod_lt m _ _ _ hm
  obtain ⟨z2, w2⟩ : ∃ zs, IsRow .i64 W a2 len2 cap2 zs := open_row Tryd.underlying23 Tryd.underlying3 (by kernel_rfl) h2
  obtain ⟨a3, rfl, rfl, rfl, w3⟩ := open_int Tryd.underlying3 (hval 3 3 v3 rfl rfl) h3
  clear hA0 hval0
  refine (walk a0 a1 len1 cap1 L1 a2 len2 cap2 z2 a3 W (tab_of_laid hL) w0 w1 w2 w3).mono fun e W' ⟨he, bel⟩ => ?_
  subst he
  exact ⟨_, rfl, _, _, _, [], _, [], hW', trodAll_mk1 (shut_bool Tryd.underlying4 _), (trodAll_cons_mk (shut_int Tryd.underlying3 w0) (trodAll_cons_mk (Below.trod laidOut (by kernel_rfl) (of_decide_eq_true (by kernel_rfl)) k1 bel lt1) (trodAll_cons_mk (Below.trod laidOut (by kernel_rfl) (of_decide_eq_true (by kernel_rfl)) k2 bel lt2) (trodAll_cons_mk (shut_int Tryd.underlying3 w3) trodAll_mk0)))), rfl, bel.frame _, fun h => by cases h⟩

theorem over : Rows.markAsksRow.holds Tryd.pinned (OpenSpec.ofChange Rows.markAsksSpec) :=
  OpenClaim.holds_of_wide 6 Tryd.f6 rfl rfl rfl rfl rfl rfl rfl ⟨rfl, rfl, rfl, rfl, rfl⟩ rfl rfl rfl rfl rfl (by kernel_rfl) Tryd.func6 (by kernel_rfl)
    (of_decide_eq_true (by kernel_rfl)) (by unfold Func.isWrapper; first | (rw [if_pos (by decide +kernel)]; kernel_rfl) | (rw [if_neg (by decide +kernel)]; exact ⟨rfl, rfl⟩))
    (fun os started H enc _ => lifted os started H enc)

/-- The statement. -/
theorem proved : Rows.MarkAsksCardSaid :=
  Claim7.holds_tied_plain_at .later [] [.data] true Rows.markAsksCard.stood.harness false
    over (fun _ h => by cases h) (by kernel_rfl) (fun _ h => by cases h) markAsks_row_tie rfl ⟨rfl, rfl⟩ (by kernel_rfl) rfl
    (fun f fn hf hfn => by
      obtain rfl : f = 6 := Option.some.inj ((show Tryd.prog.funcNamed "gleaning/gleaninglaw14.MarkAsks" = some 6 by kernel_rfl).symm.trans hf) |>.symm
      obtain rfl : fn = Tryd.f6 := (Option.some.inj (Tryd.func6.symm.trans hfn)).symm
      exact ⟨by kernel_rfl, fun j t ht => by
        rw [Tryd.params6] at ht
        have hm : t ∈ [3, 22, 23, 3] := by simpa using Array.mem_of_getElem? ht
        have hall : ([3, 22, 23, 3].all fun u => !Tryd.prog.wantsStandIn u) = true := by kernel_rfl
        exact (show Tryd.prog.wantsStandIn t = false by simpa using List.all_eq_true.1 hall t hm)⟩)
    (by kernel_rfl)
#print axioms proved
end Go.Proofs.YtaddomgjjemglaaDoor.markAsks

