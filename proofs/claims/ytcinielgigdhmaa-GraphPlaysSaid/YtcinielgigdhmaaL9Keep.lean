/- Graphs: Keep: how many go; who stays, with which references. Conditions: a graph has fewer than 1000000 nodes, and fewer than 1000000 are named. -/
import Derived.Test.YtcinielgigdhmaaL9Forget
namespace Go.Proofs.Ytcinielgigdhmaa.L9
open Go.ChangeShapes Go.WideShapes Go.ChangeAt Go.RowKit Go.Maps
open Go.Proofs.Ytcinielgigdhmaa.L5 (Cl clV rtB Tb clAt shX shR shD woV hoB IsCls newX isRf)
set_option linter.unusedVariables false

/-- Is a number among some? -/
def hasB (l : List Int) (y : Int) : Bool := l.any fun z => decide (z = y)
theorem hasB_step (l : List Int) (k : Nat) (hk : k < l.length) : hasB (l.take (k + 1)) = fun y => decide (y = l.getD k 0) || hasB (l.take k) y := by
  funext y
  unfold hasB
  rw [List.take_add_one, List.getElem?_eq_getElem hk, List.any_append, List.getD_eq_getElem?_getD, List.getElem?_eq_getElem hk]
  simp [Bool.or_comm, eq_comm]
/-- Who stays, with which references. -/
def kpL (L : List Nd) (l : List Int) : List Nd := (L.filter fun x => hasB l x.id).map fun x => { x with refs := x.refs.map fun t => if hasB l t && (nd L t).isSome then t else 0 }
def kpN (L : List Nd) (l : List Int) : Nat := (L.filter fun x => !hasB l x.id).length
section
variable {w w' : World} {z p m tb : Nat} {S : Nat → Prop} {f : Int → Option Nat} {ow : Nat → Int} {cs : List Cl} {L : List Nd} {x : Nd} {i : Int} {zs : List Int}
/-- Who is gone. -/
def gone (kp : Int → Bool) (left : Int → Bool) (y : Nd) : Bool := !kp y.id && !left y.id
theorem gone_start (h : Gr w z S p m tb f ow cs L) (kp : Int → Bool) : L.filter (gone kp fun x => (f x).isSome) = [] := by
  refine List.filter_eq_nil_iff.2 fun y hy => ?_
  obtain ⟨b, hb, _⟩ := h.nds y hy
  simp [gone, hb]
theorem gone_end {kp left : Int → Bool} (hl : ∀ x, left x = false) : L.filter (gone kp left) = L.filter fun y => !kp y.id := List.filter_congr fun y _ => by simp [gone, hl]
theorem gone_no {kp left : Int → Bool} {i : Int} (hk : kp i = true) : gone kp (fun y => left y && !decide (y = i)) = gone kp left := by
  funext y
  unfold gone
  by_cases e : y.id = i
  · simp [e, hk]
  · simp [e]
theorem gone_len {kp left : Int → Bool} (hs : Srt L) (hx : x ∈ L) (hl : left x.id = true) (hk : kp x.id = false) : (L.filter (gone kp fun y => left y && !decide (y = x.id))).length = (L.filter (gone kp left)).length + 1 := by
  have := len_step (p := fun i => !kp i && !left i) hs hx (by simp [hl])
  rw [← show (L.filter fun y => (!kp y.id && !left y.id)) = L.filter (gone kp left) from rfl, ← this]
  congr 1
  refine List.filter_congr fun y _ => ?_
  unfold gone
  by_cases e : y.id = x.id
  · simp [e, hk]
  · simp [e]
/-- What the map says. -/
def stF (f : Int → Option Nat) (kp left : Int → Bool) (y : Int) : Option Nat := if kp y || left y then f y else none
theorem stF_start (f : Int → Option Nat) (kp : Int → Bool) : stF f kp (fun x => (f x).isSome) = f := by
  funext y
  unfold stF
  cases h : f y <;> simp [h]
theorem stF_end {kp left : Int → Bool} (hl : ∀ x, left x = false) : stF f kp left = fun y => if kp y then f y else none := by
  funext y
  simp [stF, hl]
theorem stF_no {kp left : Int → Bool} {i : Int} (hk : kp i = true) : stF f kp (fun y => left y && !decide (y = i)) = stF f kp left := by
  funext y
  unfold stF
  by_cases e : y = i
  · simp [e, hk]
  · simp [e]
theorem stF_yes {kp left : Int → Bool} {i : Int} (hk : kp i = false) : stF f kp (fun y => left y && !decide (y = i)) = fun y => if y = i then none else stF f kp left y := by
  funext y
  unfold stF
  by_cases e : y = i
  · simp [e, hk]
  · simp [e]
/-- Those that stay, as a graph. -/
theorem Gr.keep (h : Gr w z S p m tb f ow cs L) (kp : Int → Bool) (c : Chg (· = m) w w') (hM : Mn w' m fun y => if kp y then f y else none) : Gr w' z S p m tb (fun y => if kp y then f y else none) ow cs (L.filter fun x => kp x.id) where
  blk := h.blk.chg c h.pm
  map := hM
  sp := h.sp
  sm := h.sm
  pm := h.pm
  om := h.om
  s := fun k hk => ⟨(h.s k hk).1, Nat.lt_of_lt_of_le (h.s k hk).2 c.size⟩
  nds := fun x hx => by
    obtain ⟨hx, hk⟩ := List.mem_filter.1 hx
    obtain ⟨b, h1, h2⟩ := h.nds x hx
    have hx1 := (h.ok x hx).id1
    refine ⟨b, by simp only [hk, if_true]; exact h1, h2.chg c fun k _ ho hkm => ?_⟩
    rw [hkm, h.om.1] at ho
    omega
  no := fun i hi => by
    cases hk : kp i with
    | false => simp [hk] at hi
    | true =>
      simp only [hk, if_true] at hi
      obtain ⟨x, hx, e⟩ := h.no i hi
      exact ⟨x, List.mem_filter.2 ⟨hx, by rw [e]; exact hk⟩, e⟩
  srt := h.srt.filter _
  ok := fun x hx => h.ok x (List.mem_filter.1 hx).1
  tab := by
    obtain ⟨base, v, t, t1, t2⟩ := h.tab
    exact ⟨base, v, Tb.chgT t t1 t2 c (fun k hk => by rw [hk]; exact (h.s m h.sm).1), t1, t2⟩
  cl := h.cl
  rt := h.rt
theorem Gr.f_nd (h : Gr w z S p m tb f ow cs L) (i : Int) : (f i).isSome = (nd L i).isSome := by
  cases hn : nd L i with
  | none => rw [h.f_none hn]; rfl
  | some x =>
    obtain ⟨b, hb, _⟩ := h.f_some hn
    rw [hb]
    rfl
theorem kp_clr (h : Gr w z S p m tb f ow cs L) (l : List Int) : (L.filter fun x => hasB l x.id).map (clr fun y => if hasB l y then f y else none) = kpL L l := by
  unfold kpL
  refine List.map_congr_left fun x _ => ?_
  unfold clr
  congr 1
  refine List.map_congr_left fun t _ => ?_
  unfold c1
  rw [← h.f_nd]
  cases hb : hasB l t <;> simp [hb]
set_option maxRecDepth 100000 in
set_option maxHeartbeats 1000000 in
theorem keep_any (h : Gr w z S p m tb f ow cs L) (hl : L.length < 1000000) {a : Option Addr} {len cap : Nat} (ha : IsRow .i64 w a len cap zs) (hlen : len < 1000000) :
    Calls Try.prog 22 #[ptr p, .slice a len cap] w fun e w' => e = .returned (.int .i64 (kpN L zs)) ∧ (∃ f', Gr w' z S p m tb f' ow cs (kpL L zs)) ∧ Chg S w w' := by
  have HG := hide h
  have HA := hide ha
  have HL := hide (And.intro hl hlen)
  have hmm := @run_makeMap Try.prog
  clear h ha hl hlen
  go_enter Try.func22, Try.ntmps22
  go_wp2_with fail
  refine (all_g HG.out).mono ?_
  rintro e w' ⟨rfl, rfl⟩
  have HS0 := hide (Su.made w)
  have HB0 := hide (Grow.box w (.map #[] 0))
  go_wp2_with fail
  go_loopw [18] (fun c wr => ∃ k : Nat, k ≤ len ∧ c = .int .i64 k ∧ Su wr w.heap.size k (hasB (zs.take k)) ∧ Grow w wr) (fun c _ => len - (Go.RowKit.intOf c).toNat)
  case atStart => exact ⟨0, Nat.zero_le _, rfl, HS0.out, HB0.out⟩
  case round =>
    obtain ⟨k, hk, rfl, hS, hgw⟩ := hrel
    rcases Nat.eq_or_lt_of_le hk with rfl | hlt
    · have q1 : decide ((k : Int) < k) = false := by simp
      have hzl : zs.length = k := HA.out.1
      rw [← hzl, List.take_length] at hS
      have hM : Mn wr m f := HG.out.map.chg hgw id
      have HCS := hide (And.intro (gone_start HG.out (hasB zs)) (stF_start f (hasB zs)))
      have HSS := hide hS
      have HGW := hide hgw
      have HMS := hide (show w.heap.size < wr.heap.size from hS.lt)
      rw [← hzl] at HL
      clear hS hgw HS0 HB0 hk
      go_wp2_with (first
        | (at_range; refine rg_range rfl _ rfl rfl hM ?_; intro w0 cnt0 hr0 hg0 hs0)
        | go_in)
      go_frame
      have HR0 := hide (show w.heap.size ≤ wr.heap.size from HGW.out.size)
      go_loopw [7] (fun c w1 => ∃ (left : Int → Bool) (cnt : Nat), Rg w1 m wr.heap.size (stF f (hasB zs) left) left cnt ∧ Su w1 w.heap.size k (hasB zs) ∧ c = .int .i64 ((L.filter (gone (hasB zs) left)).length : Nat) ∧ Chg (· = m) w w1) (fun _ w1 => w1.rangeLeft m wr.heap.size)
      case atStart => exact ⟨_, _, by rw [HCS.out.2]; exact hr0, by rw [← hzl]; exact HSS.out.chg hg0 id, by rw [HCS.out.1]; rfl, (HGW.out.trans hg0).mono fun _ _ h => h.elim⟩
      case round =>
        clear hr0 hg0 hs0 hM
        obtain ⟨left, cnt, hrg, hS, rfl, hcw⟩ := hrel
        go_wp2_with (first
          | (at_next; refine rg_next rfl _ rfl rfl hrg ?_ ?_)
          | go_in)
        · intro hl0
          rw [stF_end hl0] at hrg
          have HK := hide (HG.out.keep (hasB zs) hcw hrg.mn)
          rw [gone_end hl0]
          have HC := hide (show Chg S w wr from hcw.mono fun q _ e => by rw [e]; exact HG.out.sm)
          clear hrg hS hcw
          go_wp2_with fail
          refine (forget_any HK.out).mono ?_
          rintro e w9 ⟨rfl, hg9, hc9⟩
          go_wp2
          go_ret
          exact ⟨rfl, ⟨_, by rw [← kp_clr HG.out zs]; exact hg9⟩, HC.out.trans hc9⟩
        · intro q b w2 cnt1 hq hlq hfq hrg1 hlt hc1 hs1 hen
          have hfq2 : f q = some b := by
            unfold stF at hfq
            rwa [hlq, Bool.or_true, if_pos rfl] at hfq
          obtain ⟨x, hx, hxq⟩ := HG.out.no q (by rw [hfq2]; simp)
          have hS2 := hS.chg hc1 (by have := HMS.out; show ¬ _ = _; omega)
          have hlook := hS2.look hq
          have hcw2 : Chg (· = m) w w2 := hcw.step hc1 fun i hi e => by have := HR0.out; omega
          have HM := hide (show cnt1 < wr.rangeLeft m _ from by rw [hrg.left_eq]; exact hlt)
          have gB := Grow.box w2 (.cells #[] 90)
          cases hB : hasB zs q with
          | true =>
            rw [hB] at hlook
            have HR := hide (And.intro (hrg1.grow gB) (And.intro (hS2.chg gB id) (hcw2.step gB fun _ _ h => h.elim)))
            have HE := hide (And.intro (stF_no (f := f) (left := left) hB) (gone_no (left := left) hB))
            clear hrg hrg1 hS hcw hc1 hs1 hfq hfq2 hS2 hcw2 hlt hlq hx hxq
            go_wp2_with fail
            exact ⟨⟨fun y => left y && !decide (y = q), cnt1, by rw [HE.out.1]; exact HR.out.1, HR.out.2.1, by rw [HE.out.2], HR.out.2.2⟩, by rw [HR.out.1.left_eq]; exact HM.out⟩
          | false =>
            rw [hB] at hlook
            subst hxq
            have hln := gone_len HG.out.srt hx hlq hB
            have hbd : (L.filter (gone (hasB zs) left)).length ≤ L.length := List.length_filter_le _ _
            have hw : IntKind.i64.wrap (((L.filter (gone (hasB zs) left)).length : Int) + 1) = (((L.filter (gone (hasB zs) left)).length + 1 : Nat) : Int) := (IntWalk.i64_in _ (by have := HL.out.1; omega)).trans (by omega)
            have hrg2 := hrg1.grow gB
            have HR := hide (And.intro (hS2.chg gB id) (hcw2.step gB fun _ _ h => h.elim))
            have HE := hide (And.intro (stF_yes (f := f) (left := left) hB) hln)
            clear hrg hrg1 hS hcw hc1 hs1 hfq hfq2 hS2 hcw2 hlt hlq hx hln hbd
            generalize (L.filter (gone (hasB zs) left)).length = u at *
            go_wp2_with (first
              | (at_delete; refine rg_del rfl _ _ rfl rfl rfl hq hrg2 ?_; intro w3 cnt3 hrg3 hle hc3; go_frame)
              | go_in)
            have e2 : (fun y => left y && !decide (y = x.id) && !decide (y = x.id)) = fun y => left y && !decide (y = x.id) := by
              funext y
              cases left y <;> cases decide (y = x.id) <;> rfl
            rw [e2] at hrg3
            exact ⟨⟨fun y => left y && !decide (y = x.id), cnt3, by rw [HE.out.1]; exact hrg3, HR.out.1.chg hc3 (by show ¬ w.heap.size = m; have := (HG.out.s m HG.out.sm).2; omega), by rw [HE.out.2, Int.natCast_add]; rfl, HR.out.2.trans hc3⟩, by rw [hrg3.left_eq]; have := HM.out; omega⟩
    · have q1 : decide ((k : Int) < len) = true := by simp; omega
      have hzl : zs.length = len := HA.out.1
      obtain ⟨ax, rfl, hc, hwf⟩ := HA.out.at_ hlt
      have xk := Grow.cell hgw hc
      obtain ⟨w2, hput, hS2, hc2⟩ := hS.put hwf (by have := HL.out.2; unfold maxLen; omega)
      have HST := hide (hasB_step zs k (by omega))
      have HK := hide hlt
      have hw : IntKind.i64.wrap ((k : Int) + 1) = ((k + 1 : Nat) : Int) := (IntWalk.i64_in _ (by have := HL.out.2; omega)).trans (by omega)
      have HR := hide (And.intro hS2 (show Grow w w2 from hgw.step hc2 fun i hi e => by omega))
      clear hS hgw hS2 hc2 hc hwf hzl HS0 HB0
      generalize zs.getD k 0 = q at *
      go_wp2
      go_roundw
      case rel => exact ⟨k + 1, HK.out, rfl, by rw [HST.out]; exact HR.out.1, HR.out.2⟩
      case measure => have := HK.out; simp [Go.RowKit.intOf]; omega
end
end Go.Proofs.Ytcinielgigdhmaa.L9
