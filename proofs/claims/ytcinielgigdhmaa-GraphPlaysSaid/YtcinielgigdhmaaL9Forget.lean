/- Graphs: forget: references to what is gone are cleared. Conditions: none. -/
import Derived.Test.YtcinielgigdhmaaL9Rg
import Derived.Test.YtcinielgigdhmaaL9Words
namespace Go.Proofs.Ytcinielgigdhmaa.L9
open Go.ChangeShapes Go.WideShapes Go.ChangeAt Go.RowKit Go.Maps
open Go.Proofs.Ytcinielgigdhmaa.L5 (Cl clV rtB Tb clAt shX shR shD woV hoB IsCls newX isRf)
set_option linter.unusedVariables false

/-- A reference to what is not there, cleared. -/
def c1 (f : Int → Option Nat) (t : Int) : Int := if (f t).isSome then t else 0
def clr (f : Int → Option Nat) (x : Nd) : Nd := { x with refs := x.refs.map (c1 f) }
def clrL (f : Int → Option Nat) (left : Int → Bool) (x : Nd) : Nd := if left x.id then x else clr f x
/-- The first k references are cleared. -/
def clK (f : Int → Option Nat) (l : List Int) (k : Nat) : List Int := (l.take k).map (c1 f) ++ l.drop k
section
variable {w w' : World} {z p m tb : Nat} {S : Nat → Prop} {f : Int → Option Nat} {ow : Nat → Int} {cs : List Cl} {L : List Nd} {x : Nd} {i : Int}
theorem clK_zero (l : List Int) : clK f l 0 = l := by simp [clK]
theorem clK_all (l : List Int) : clK f l l.length = l.map (c1 f) := by simp [clK]
theorem clK_len (l : List Int) (k : Nat) : (clK f l k).length = l.length := by simp [clK]; omega
theorem clK_get (l : List Int) (k : Nat) : (clK f l k).getD k 0 = l.getD k 0 := by
  rcases Nat.lt_or_ge k l.length with h | h
  · have hl : ((l.take k).map (c1 f)).length = k := by simp; omega
    unfold clK
    rw [List.getD_eq_getElem?_getD, List.getElem?_append_right (by omega), hl]
    simp [List.getD_eq_getElem?_getD]
  · have h1 := clK_len (f := f) l k
    rw [List.getD_eq_getElem?_getD, List.getD_eq_getElem?_getD, List.getElem?_eq_none (by omega), List.getElem?_eq_none h]
theorem clK_step (l : List Int) (k : Nat) (hk : k < l.length) : clK f l (k + 1) = (clK f l k).set k (c1 f (l.getD k 0)) := by
  have hl : ((l.take k).map (c1 f)).length = k := by simp; omega
  have e1 : l.take (k + 1) = l.take k ++ [l.getD k 0] := by
    rw [List.take_add_one, List.getElem?_eq_getElem hk, List.getD_eq_getElem?_getD, List.getElem?_eq_getElem hk]
    rfl
  have e2 : l.drop k = l.getD k 0 :: l.drop (k + 1) := by
    rw [List.drop_eq_getElem_cons hk, List.getD_eq_getElem?_getD, List.getElem?_eq_getElem hk]
    rfl
  unfold clK
  rw [e1, e2, List.set_append_right _ _ (by omega), hl]
  simp
theorem updN_refs (L : List Nd) (i : Int) (l : List Int) (k : Nat) (t : Int) :
    updN (updN L i fun y => { y with refs := l }) i (fun y => { y with refs := y.refs.set k t }) = updN L i fun y => { y with refs := l.set k t } := by
  unfold updN
  rw [List.map_map]
  refine List.map_congr_left fun y _ => ?_
  show (if (if y.id = i then { y with refs := l } else y).id = i then _ else _) = _
  by_cases e : y.id = i
  · simp [e]
  · simp [e]
theorem clrL_id (left : Int → Bool) (x : Nd) : (clrL f left x).id = x.id := by
  unfold clrL clr
  split <;> rfl
theorem clr_start (h : Gr w z S p m tb f ow cs L) : L.map (clrL f fun x => (f x).isSome) = L := by
  refine (List.map_congr_left fun y hy => ?_).trans (List.map_id L)
  obtain ⟨b, hb, _⟩ := h.nds y hy
  simp [clrL, hb]
theorem clr_end {left : Int → Bool} (hl : ∀ x, left x = false) (L : List Nd) : L.map (clrL f left) = L.map (clr f) := List.map_congr_left fun y _ => by simp [clrL, hl]
theorem nd_clr (hs : Srt L) (left : Int → Bool) (hx : x ∈ L) (hl : left x.id = true) : nd (L.map (clrL f left)) x.id = some x := by
  have hs' : Srt (L.map (clrL f left)) := srt_of_ids hs (by rw [List.map_map]; exact List.map_congr_left fun y _ => clrL_id left y)
  have hm : x ∈ L.map (clrL f left) := List.mem_map.2 ⟨x, hx, by simp [clrL, hl]⟩
  exact nd_mem hs' hm
theorem clr_step (hs : Srt L) (left : Int → Bool) (hx : x ∈ L) (hl : left x.id = true) :
    updN (L.map (clrL f left)) x.id (fun y => { y with refs := x.refs.map (c1 f) }) = L.map (clrL f fun y => left y && !decide (y = x.id)) := by
  unfold updN
  rw [List.map_map]
  refine List.map_congr_left fun y hy => ?_
  show (if (clrL f left y).id = x.id then { clrL f left y with refs := x.refs.map (c1 f) } else clrL f left y) = _
  rw [clrL_id]
  by_cases e : y.id = x.id
  · obtain rfl := srt_inj hs hy hx e
    simp [clrL, hl, clr]
  · simp [clrL, e]
theorem updN_same (hs : Srt L) (hx : nd L i = some x) (l : List Int) (hl : l = x.refs) : updN L i (fun y => { y with refs := l }) = L := by
  subst hl
  unfold updN
  refine (List.map_congr_left fun y hy => ?_).trans (List.map_id L)
  obtain ⟨hm, e⟩ := nd_some hx
  split
  · rename_i h
    obtain rfl := srt_inj hs hy hm (by omega)
    rfl
  · rfl
/-- The state inside: node x's first k references are cleared. -/
structure Fo (w wr : World) (z : Nat) (S : Nat → Prop) (p m tb : Nat) (f : Int → Option Nat) (ow : Nat → Int) (cs : List Cl) (L : List Nd) (x : Nd) (b br bd r : Nat) (left : Int → Bool) (cnt k : Nat) : Prop where
  nod : Nod wr S ow b br bd { x with refs := clK f x.refs k }
  gr : Gr wr z S p m tb f ow cs (updN L x.id fun y => { y with refs := clK f x.refs k })
  rg : Rg wr m r f left cnt
  chg : Chg S w wr
theorem Fo.step {wr : World} {b br bd r : Nat} {left : Int → Bool} {cnt k : Nat} (h : Fo w wr z S p m tb f ow cs L x b br bd r left cnt k) (hn : nd L x.id = some x) (hb : f x.id = some b) (hk : k < x.refs.length) (hr : w.heap.size ≤ r) (hbr : br < w.heap.size) (hx0 : 1 ≤ x.id) (hq : c1 f (x.refs.getD k 0) = 0) :
    Fo w (wr.setCell ⟨br, k, none⟩ (.int .i64 0)) z S p m tb f ow cs L x b br bd r left cnt (k + 1) := by
  have hn' : nd (updN L x.id fun y => { y with refs := clK f x.refs k }) x.id = some { x with refs := clK f x.refs k } := by
    rw [nd_upd (fun y : Nd => { y with refs := clK f x.refs k }) (fun _ => rfl), if_pos rfl, hn]
    rfl
  have hok := h.gr.ok _ (nd_some hn').1
  have hs := clK_step (f := f) x.refs k hk
  rw [hq] at hs
  obtain ⟨h1, h2⟩ := h.gr.ofNod hn' hb h.nod (.inr (.inl rfl)) (k0 := k) (fun y => { y with refs := y.refs.set k 0 }) (fun _ => rfl) (hok.setRef k (show (Lit.int .i64 0).wf = true by decide)) (h.nod.setRef k 0)
  rw [updN_refs, ← hs] at h1
  have hne : m ≠ br := by
    intro e
    have o1 := h.nod.2.2.2.2.1.2.1
    have o2 := h.gr.om.1
    rw [← e, o2] at o1
    have : (0 : Int) = x.id := o1
    omega
  refine ⟨?_, h1, h.rg.chg ((Chg.refl _ _).set1 _ _) hne (by show ¬ r = br; omega), h.chg.trans h2⟩
  rw [hs]
  exact h.nod.setRef k 0
theorem Fo.skip {wr : World} {b br bd r : Nat} {left : Int → Bool} {cnt k : Nat} (h : Fo w wr z S p m tb f ow cs L x b br bd r left cnt k) (hk : k < x.refs.length) (hq : c1 f (x.refs.getD k 0) = x.refs.getD k 0) :
    Fo w wr z S p m tb f ow cs L x b br bd r left cnt (k + 1) := by
  have hs := clK_step (f := f) x.refs k hk
  have e : (clK f x.refs k).set k (x.refs.getD k 0) = clK f x.refs k := by
    have hl := clK_len (f := f) x.refs k
    have hg := clK_get (f := f) x.refs k
    rw [← hg, List.getD_eq_getElem?_getD, List.getElem?_eq_getElem (by omega)]
    exact List.set_getElem_self _
  rw [hq, e] at hs
  exact ⟨hs ▸ h.nod, hs ▸ h.gr, h.rg, h.chg⟩
set_option maxRecDepth 100000 in
set_option maxHeartbeats 1000000 in
theorem forget_any (h : Gr w z S p m tb f ow cs L) :
    Calls Try.prog 44 #[ptr p] w fun e w' => e = .returned (.tuple #[]) ∧ Gr w' z S p m tb f ow cs (L.map (clr f)) ∧ Chg S w w' := by
  have HG := hide h
  have hM := h.map
  have HCS := hide (clr_start h)
  clear h
  go_enter Try.func44, Try.ntmps44
  go_wp2_with fail
  refine (all_g HG.out).mono ?_
  rintro e w' ⟨rfl, rfl⟩
  go_wp2_with (first
    | (at_range; refine rg_range rfl _ rfl rfl hM ?_; intro w0 cnt0 hr0 hg0 hs0)
    | go_in)
  go_frame
  have HW := hide (show w.heap.size ≤ w.heap.size from Nat.le_refl _)
  go_loopw [4] (fun _ wr => ∃ (left : Int → Bool) (cnt : Nat), Rg wr m w.heap.size f left cnt ∧ Gr wr z S p m tb f ow cs (L.map (clrL f left)) ∧ Chg S w wr) (fun _ wr => wr.rangeLeft m w.heap.size)
  case atStart => exact ⟨_, _, hr0, by rw [HCS.out]; exact HG.out.grow hg0, hg0.mono fun _ _ h => h.elim⟩
  case round =>
    clear hr0 hg0 hs0 hM
    obtain ⟨left, cnt, hrg, hgr, hcw⟩ := hrel
    go_wp2_with (first
      | (at_next; refine rg_next rfl _ rfl rfl hrg ?_ ?_)
      | go_in)
    · intro hl0
      go_wp2
      go_end0
      exact ⟨rfl, by rw [← clr_end hl0]; exact hgr, hcw⟩
    · intro k b w1 cnt1 hk hlk hfk hrg1 hlt hc1 hs1 hen
      obtain ⟨x, hx, rfl⟩ := HG.out.no k (by rw [hfk]; simp)
      have hxn := nd_clr (f := f) HG.out.srt left hx hlk
      have hgr1 : Gr w1 z S p m tb f ow cs (L.map (clrL f left)) := hgr.chg hc1 (fun q hq => by have := (HG.out.s p HG.out.sp); omega) (fun q hq e => by have := (HG.out.s q hq).2; omega)
      obtain ⟨b', hb', br, bd, hx'⟩ := hgr1.f_some hxn
      obtain rfl : b' = b := by rw [hfk] at hb'; injection hb' with hb'; exact hb'.symm
      have hxo := HG.out.ok x hx
      have hbr := (HG.out.s br hx'.2.2.2.2.2.2.1).2
      have HX := hide (And.intro hxn (And.intro hfk (And.intro hbr hxo)))
      have hcw1 : Chg S w w1 := hcw.step hc1 fun q hq e => by omega
      have HST := hide (clr_step (f := f) HG.out.srt left hx hlk)
      have HLT := hide hlt
      have HRL := hide hrg.left_eq
      have HF0 := hide (show Fo w w1 z S p m tb f ow cs (L.map (clrL f left)) x b' br bd w.heap.size (fun y => left y && !decide (y = x.id)) cnt1 0 from ⟨by rw [clK_zero]; exact hx', by rw [clK_zero, updN_same hgr1.srt hxn _ rfl]; exact hgr1, hrg1, hcw1⟩)
      obtain ⟨-, -, x2, -, -, -⟩ := hx'.cells
      obtain ⟨n, hnn⟩ : ∃ n, x.refs.length = n := ⟨_, rfl⟩
      rw [hnn] at x2
      have HNN := hide hnn
      clear hrg hgr hcw hlt hlk hfk hrg1 hc1 hs1 hx hxn hgr1 hb' hx' hxo hbr hcw1 hnn
      go_wp2_with fail
      go_loopw [21] (fun c wr2 => ∃ k : Nat, k ≤ n ∧ c = .int .i64 k ∧ Fo w wr2 z S p m tb f ow cs (L.map (clrL f left)) x b' br bd w.heap.size (fun y => left y && !decide (y = x.id)) cnt1 k) (fun c _ => n - (Go.RowKit.intOf c).toNat)
      case atStart => exact ⟨0, Nat.zero_le _, rfl, HF0.out⟩
      case round =>
        clear HF0 x2
        obtain ⟨k, hkn, rfl, hF⟩ := hrel
        rcases Nat.eq_or_lt_of_le hkn with rfl | hlt
        · have q1 : decide ((k : Int) < k) = false := by simp
          have HFF := hide hF
          clear hF
          go_wp2
          go_roundw
          case rel =>
            have h1 := HFF.out.gr
            rw [← HNN.out, clK_all, HST.out] at h1
            exact ⟨_, _, HFF.out.rg, h1, HFF.out.chg⟩
          case measure => rw [HFF.out.rg.left_eq, HRL.out]; exact HLT.out
        · have q1 : decide ((k : Int) < n) = true := by simp; omega
          have hl := hF.rg.mn.look (HX.out.2.2.2.rw_ _ (show x.refs.getD k 0 ∈ x.refs by rw [List.getD_eq_getElem?_getD, List.getElem?_eq_getElem (by rw [HNN.out]; exact hlt)]; exact List.getElem_mem _))
          have x2 := hF.nod.cells.2.2.1
          rw [show ({ x with refs := clK f x.refs k } : Nd).refs.length = n by show (clK f x.refs k).length = n; rw [clK_len, HNN.out]] at x2
          have xk := (hF.nod.2.1.cell k).trans (ints_get _ _ (by show k < (clK f x.refs k).length; rw [clK_len, HNN.out]; exact hlt))
          rw [show (({ x with refs := clK f x.refs k } : Nd).refs.getD k 0) = x.refs.getD k 0 from clK_get _ _] at xk
          have fk := hF.nod.2.1.frozen k
          have hw : IntKind.i64.wrap ((k : Int) + 1) = ((k + 1 : Nat) : Int) := (IntWalk.i64_in _ (by have := HX.out.2.2.2.rl; have := HNN.out; omega)).trans (by omega)
          have HK := hide hlt
          cases hfq : f (x.refs.getD k 0) with
          | none =>
            rw [hfq] at hl
            have HFF := hide (hF.step HX.out.1 HX.out.2.1 (by rw [HNN.out]; exact hlt) (Nat.le_refl _) HX.out.2.2.1 HX.out.2.2.2.id1 (by unfold c1; rw [hfq]; rfl))
            clear hF
            generalize x.refs.getD k 0 = q at *
            go_wp2
            go_roundw
            case rel => exact ⟨k + 1, HK.out, rfl, HFF.out⟩
            case measure => have := HK.out; simp [Go.RowKit.intOf]; omega
          | some b2 =>
            rw [hfq] at hl
            have HFF := hide (hF.skip (by rw [HNN.out]; exact hlt) (by unfold c1; rw [hfq]; rfl))
            clear hF
            generalize x.refs.getD k 0 = q at *
            go_wp2
            go_roundw
            case rel => exact ⟨k + 1, HK.out, rfl, HFF.out⟩
            case measure => have := HK.out; simp [Go.RowKit.intOf]; omega
end
end Go.Proofs.Ytcinielgigdhmaa.L9
