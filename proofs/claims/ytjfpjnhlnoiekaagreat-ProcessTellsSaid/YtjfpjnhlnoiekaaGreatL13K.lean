/- Reference processing: the passed function decides which aims of Soft nodes live; the list of those who wait. Conditions: fewer than 1000000 nodes. -/
import Derived.Test.YtjfpjnhlnoiekaaGreatL13E
import Derived.Deep.LoopGhost
namespace Go.Proofs.YtjfpjnhlnoiekaaGreat.L13
open Go.ChangeShapes Go.WideShapes Go.ChangeAt Go.RowKit Go.Maps
open Go.Proofs.YtjfpjnhlnoiekaaGreat.L9 (Nd nd Srt In64 GS Mn pt ptr hldX aimX nd_some nd_none nd_mem own_rd wpList_app hasB hasB_step)
open Go.Proofs.YtjfpjnhlnoiekaaGreat.L10 (Rc IsRc outs clL fins fnB srcC clL_srt put OL ol_nil app_more take_step clL_step clL_le reach_any)
open Go.Proofs.YtjfpjnhlnoiekaaGreat.L5 (Cl clAt isRf)
set_option linter.unusedVariables false
/-- What holds between two questions. -/
structure Ak (cs : List Cl) (L : List Nd) (K : Int → Bool) (zs : List Int) (q wq : Int → Bool) : Prop where
  a : ∀ i, q i = true → Kc cs L K zs i
  b : ∀ i ∈ zs, nd L i ≠ none → q i = true
  c : ∀ i j, q i = true → j ∈ hldX cs L i → nd L j ≠ none → q j = true
  d : ∀ i, q i = true → (aimX cs L i).2 = 3 → K i = true → nd L (aimX cs L i).1 ≠ none → q (aimX cs L i).1 = true ∨ wq i = true
def pop (wq : Int → Bool) (i : Int) (y : Int) : Bool := wq y && !decide (y = i)
/-- How much is left. -/
def lft (L : List Nd) (q wq : Int → Bool) : Nat := (L.filter fun x => !q x.id).length + (L.filter fun x => wq x.id).length
section
variable {cs : List Cl} {L : List Nd} {K q wq r : Int → Bool} {zs : List Int} {i : Int}
theorem Ak.start (hr : IsRc cs L 1 zs r) : Ak cs L K zs (un (fun _ => false) r) (wn cs L (fun _ => false) r (fun _ => false)) := by
  have e : ∀ i, un (fun _ => false) r i = r i := fun i => by simp [un]
  refine ⟨fun i hi => Rc.toKc ((hr i).1 (by rw [← e]; exact hi)), fun i hi hn => by rw [e]; exact (hr i).2 (.st hi hn), fun i j hi hj hn => ?_, fun i hi h3 _ _ => .inr ?_⟩
  · rw [e] at hi ⊢
    exact (hr j).2 (.go ((hr i).1 hi) (by rw [outs1]; exact hj) hn)
  · rw [e] at hi
    simp [wn, hi, h3]
theorem Ak.done (h : Ak cs L K zs q wq) (hn : ∀ i, nd L i ≠ none → wq i = false) : IsKc cs L K zs q :=
  IsKc.mk h.a h.b h.c fun i hi h3 hk hm => by
    rcases h.d i hi h3 hk hm with e | e
    · exact e
    · rw [hn i (h.a i hi).is_] at e; cases e
theorem Ak.skip (h : Ak cs L K zs q wq) (hi : los cs L q i = false ∨ K i = false) : Ak cs L K zs q (pop wq i) := by
  refine ⟨h.a, h.b, h.c, fun j hj h3 hk hm => ?_⟩
  rcases h.d j hj h3 hk hm with e | e
  · exact .inl e
  · by_cases hji : j = i
    · subst hji
      rcases hi with hi | hi
      · left
        rw [los_yes (isN_ne.2 hm), hj] at hi
        simpa using hi
      · rw [hi] at hk; cases hk
    · right
      simp [pop, e, hji]
theorem Ak.take (h : Ak cs L K zs q wq) (hq : q i = true) (h3 : (aimX cs L i).2 = 3) (hk : K i = true) (hr : IsRc cs L 1 [(aimX cs L i).1] r) (hm : nd L (aimX cs L i).1 ≠ none) : Ak cs L K zs (un q r) (wn cs L q r (pop wq i)) := by
  have hrk : ∀ j, r j = true → Kc cs L K zs j := fun j hj => by
    have := (hr j).1 hj
    clear hj
    induction this with
    | st hm2 hn =>
      rw [List.mem_singleton.1 hm2]
      exact .kp (h.a i hq) h3 hk hm
    | go _ hj hn ih => exact .go ih (by rw [outs1] at hj; exact hj) hn
  refine ⟨fun j hj => ?_, fun j hj hn => by unfold un; rw [h.b j hj hn]; rfl, fun j k hj hk2 hn => ?_, fun j hj h3j hkj hmj => ?_⟩
  · unfold un at hj
    rcases Bool.or_eq_true_iff.1 hj with e | e
    · exact h.a j e
    · exact hrk j e
  · unfold un at hj ⊢
    rcases Bool.or_eq_true_iff.1 hj with e | e
    · rw [h.c j k e hk2 hn]; rfl
    · rw [(hr k).2 (.go ((hr j).1 e) (by rw [outs1]; exact hk2) hn), Bool.or_true]
  · cases hqj : q j with
    | true =>
      rcases h.d j hqj h3j hkj hmj with e | e
      · left; unfold un; rw [e]; rfl
      · by_cases hji : j = i
        · subst hji
          left
          unfold un
          rw [(hr _).2 (.st (List.mem_singleton.2 rfl) hm), Bool.or_true]
        · right
          simp [wn, pop, e, hji]
    | false =>
      right
      unfold un at hj
      rw [hqj, Bool.false_or] at hj
      simp [wn, hj, hqj, h3j]
theorem cnt_clL (L : List Nd) (p : Int → Bool) : (L.filter fun x => p x.id).length = (clL L p).length := by unfold clL; rw [List.length_map]
theorem lft_pop (hs : Srt L) {l : List Int} (h : clL L wq = i :: l) : lft L q (pop wq i) + 1 = lft L q wq := by
  obtain ⟨-, -, e⟩ := cl_pop hs h
  unfold lft
  rw [cnt_clL L (pop wq i), cnt_clL L wq, h]
  have : clL L (pop wq i) = l := e
  rw [this]
  simp
  omega
theorem lft_take (wq : Int → Bool) : lft L (un q r) (wn cs L q r wq) ≤ lft L q wq := by
  unfold lft
  have key : ∀ M : List Nd, (M.filter fun x => !un q r x.id).length + (M.filter fun x => wn cs L q r wq x.id).length ≤ (M.filter fun x => !q x.id).length + (M.filter fun x => wq x.id).length := by
    intro M
    induction M with
    | nil => simp
    | cons a M ih =>
      have hc : (if (!un q r a.id) then 1 else 0) + (if wn cs L q r wq a.id then 1 else 0) ≤ (if (!q a.id) then 1 else 0) + (if wq a.id then 1 else 0) := by
        unfold un wn
        cases q a.id <;> cases r a.id <;> cases wq a.id <;> simp
        split <;> simp
      simp only [List.filter_cons]
      revert hc
      cases (!un q r a.id) <;> cases wn cs L q r wq a.id <;> cases (!q a.id) <;> cases wq a.id <;> simp <;> omega
  exact key L
end
section
variable {w W W' : World} {s p m z b : Nat} {f : Int → Option Nat} {ia : Option Addr} {ic : Nat} {cs : List Cl} {L : List Nd} {q c K : Int → Bool} {wv wv' : Value} {wq : Int → Bool} {S T : Nat → Prop} {x : Nd} {i : Int} {zs : List Int} {fid : Nat} {lb : Array Value}
/-- What a function answers that is passed, behind w: K. -/
def Keeps (w : World) (L : List Nd) (K : Int → Bool) (fid : Nat) (lb : Array Value) : Prop :=
  ∀ (W : World) (i c : Int) (a : Option Addr) (n ca : Nat) (b : Option Addr) (m cb : Nat) (fn : Bool), Grow w W → nd L i ≠ none →
    Calls Tryz.prog fid (#[.agg #[.int .i64 i, .int .i64 c, .slice a n ca, .slice b m cb, .bool fn]] ++ lb) W fun e w' => e = .returned (.bool (K i)) ∧ Grow W w'
/-- What stands between two questions, in memory. -/
def Aq (w W : World) (s p m : Nat) (f : Int → Option Nat) (ia : Option Addr) (ic : Nat) (cs : List Cl) (L : List Nd) (c K : Int → Bool) (zs : List Int) (g : Nat) : Prop :=
  ∃ (q wq : Int → Bool) (wv : Value), Sn w W s p m f ia ic cs L q c wv wq ∧ Ak cs L K zs q wq ∧ (∀ i, wq i = true → (aimX cs L i).2 = 3) ∧ lft L q wq ≤ g
def Asked (w : World) (s p m : Nat) (f : Int → Option Nat) (ia : Option Addr) (ic : Nat) (cs : List Cl) (L : List Nd) (c K : Int → Bool) (zs : List Int) (e : Ending) (W' : World) : Prop :=
  e = .returned (.tuple #[]) ∧ ∃ (q wq : Int → Bool) (wv : Value), Sn w W' s p m f ia ic cs L q c wv wq ∧ IsKc cs L K zs q
set_option maxRecDepth 100000 in
set_option maxHeartbeats 4000000 in
theorem ask_any (eg : ∀ args w, (callFunc fid args).run Tryz.prog w = .ok (.enter fid args) w) (hg : GS w z S p cs L) (hl : L.length < 1000000) {gm : Nat} (h : Aq w W s p m f ia ic cs L c K zs gm) (hp : Keeps w L K fid lb) :
    Calls Tryz.prog 26 #[ptr s, .func (.func fid) #[] lb] W (Asked w s p m f ia ic cs L c K zs) := by
  have HG := hide hg
  have HL := hide hl
  have HSR := hide hg.srt
  have HOK := hide (show ∀ x ∈ L, x.Ok cs from fun x hx => hg.ok hx)
  have HKP := hide hp
  have HAQ := hide h
  clear hg hl hp h
  go_enter Tryz.func26, Tryz.ntmps26
  go_wp2_with fail
  go_loopg [4] gm (fun gg v wr => Aq w wr s p m f ia ic cs L c K zs gg)
  case atStart => exact HAQ.out
  case round =>
    clear HAQ
    obtain ⟨q, wq, wv, hS, hA, h3, hgk⟩ := hrel
    have hql := hS.wl
    cases hc : clL L wq with
    | nil =>
      rw [hc] at hql
      have hd := hA.done fun i hn => by
        cases hwi : wq i with
        | false => rfl
        | true =>
          have := (clL_iff HSR.out).2 ⟨hn, hwi⟩
          rw [hc] at this
          cases this
      have HD := hide hd
      have HS := hide hS
      have c3 := hS.c3
      obtain ⟨a, cc, hv, -⟩ := hql.form
      rw [hv] at c3
      simp only [List.length_nil] at c3
      clear hS hA h3 hgk hql hc hd hv
      go_wp2
      go_returns
      exact ⟨rfl, q, wq, wv, HS.out, HD.out⟩
    | cons i l =>
      rw [hc] at hql
      obtain ⟨hni, hwi, hcp⟩ := cl_pop HSR.out hc
      have HGM := hide (show lft L q (pop wq i) < gk by have := lft_pop (q := q) HSR.out hc; omega)
      obtain ⟨g, off, cap, hv, -, -, hcap, hmax⟩ := hql.pos (by simp)
      have c3 := hS.c3
      rw [hv] at c3 hql
      have k0 := (hql.cell (k := 0) (by simp)).1
      simp only [List.length_cons, List.getD_cons_zero, Nat.add_zero] at c3 k0 hql hcap
      have hqt := hql.tail
      have HWQ := hide (show ∀ j, pop wq i j = true → q j = true from fun j hj => hS.wn j (Bool.and_eq_true_iff.1 hj).1)
      obtain ⟨x, hxn⟩ := Option.ne_none_iff_exists'.1 hni
      obtain ⟨hx, hxi⟩ := nd_some hxn
      obtain ⟨b, hb, -⟩ := hS.nds x hx
      have hib : In64 i := by rw [← hxi]; exact (HOK.out x hx).id2
      have hfi : f i = some b := by rw [← hxi]; exact hb
      have HLK := hide (fun (W' : World) (g : Grow wr W') => pn_at (hS.map.chg g id) hib hfi)
      have HX := hide (⟨hx, hb, hxi⟩ : x ∈ L ∧ f x.id = some b ∧ x.id = i)
      have c2 := hS.c2
      have HB := hide hS.blk
      have HAK := hide hA
      have HPW := hide (show ∀ j, pop wq i j = true → (aimX cs L j).2 = 3 from fun j hj => h3 j (Bool.and_eq_true_iff.1 hj).1)
      have HK3 := hide h3
      have HWI := hide hwi
      have hq0 : l.length < 1000000 := by have h1 := clL_le L wq; rw [hc] at h1; simp at h1; have := HL.out; omega
      have q0 : decide ((l.length : Int) + 1 > 0) = true := decide_eq_true (by omega)
      have hcp' : clL L (pop wq i) = l := hcp
      rw [← hcp'] at hqt
      subst hv
      have HS := hide hS
      clear hS hA h3 hgk hni hwi hcp hxn hx hxi hb hib hfi hq0
      by_cases e : cap = 1
      · subst e
        have hl0 : l.length = 0 := by omega
        rw [if_pos rfl, hcp', hl0, Nat.sub_self] at hqt
        rw [hl0] at c3 q0
        have HQT := hide (show QL wr w.heap.size (.slice (some ⟨g, off, none⟩) 0 0) (clL L (pop wq i)) from by rw [hcp']; exact hqt)
        clear hqt hql hcap hmax hl0 hcp'
        go_wp2_with fail
        refine wp_region_grow (by kernel_rfl) (by kernel_rfl) ?_
        repeat (
          with_reducible refine wpQuiet_step ?_
          intro K hK
          first
            | ((with_reducible refine quiet_offT rfl ?_ (hK _ ?_)); focus (refine ⟨_, rfl, ?_⟩; with_reducible rfl))
            | ((with_reducible refine quiet_offF rfl ?_ (hK _ ?_)); focus (refine ⟨_, rfl, ?_⟩; with_reducible rfl))
            | ((with_reducible refine quiet_offN rfl ?_ (hK _ ?_)); focus (exact rfl))
            | ((first | with_reducible refine quiet_free rfl ?_ | ((with_reducible refine quiet_on rfl ?_ ?_); focus (refine ⟨_, rfl, ?_⟩; with_reducible rfl)))
               apply Exists.intro
               refine ⟨fun Wq hW => ?_, hK _ ?_⟩
               focus (have q0 := Grow.cell hW c2; have q1 := Grow.cell hW c3; have q2 := Grow.cell hW k0; have q3 := HLK.out _ hW; go_simp; first | done | with_reducible rfl))
          clear hK K
          simp only [Act.put, List.setIfInBounds_toArray, List.set_cons_zero, List.set_cons_succ])
        with_reducible refine wpQuiet_nil ?_
        intro w9 c9
        replace c3 := Grow.cell c9 c3
        replace c2 := Grow.cell c9 c2
        have fz3 : w9.frozen? ⟨s, 3, none⟩ = false := (HB.out.chg c9 id).frozen 3
        have hS := (HS.out.grow c9).wait (Chg.refl _ w9) (HQT.out.grow c9) (fun k hk => .inl hk) HWQ.out
        obtain ⟨b0, hb0, hP⟩ := hS.nds x HX.out.1
        obtain rfl : b = b0 := by have := HX.out.2.1; rw [this] at hb0; injection hb0
        obtain ⟨-, x5, -⟩ := hP.cells
        obtain ⟨ra, rc, da, dc, y0, y1, y2, y3, y4⟩ := hP.low
        have HLO := hide (loses_any hS HOK.out HX.out.1 hb0)
        rw [HX.out.2.2] at y0
        have HSN := hide hS
        have HWS := hide (HS.out.gw.trans c9)
        clear k0 c9 hS hP hb0
        go_wp2_with fail
        generalize w9.setCell _ _ = wl at *
        refine HLO.out.mono ?_
        rintro e w10 ⟨rfl, g10⟩
        have HS10 := hide (HSN.out.grow g10)
        replace y0 := Grow.cell g10 y0
        replace y1 := Grow.cell g10 y1
        replace y2 := Grow.cell g10 y2
        replace y3 := Grow.cell g10 y3
        replace y4 := Grow.cell g10 y4
        replace x5 := Grow.cell g10 x5
        clear g10 HLO HSN c3 c2 fz3 HWS
        cases hlo : los cs L q x.id with
        | false =>
          have HN := hide (show Aq w w10 s p m f ia ic cs L c K zs (lft L q (pop wq i)) from ⟨_, _, _, HS10.out, HAK.out.skip (.inl (by rw [← HX.out.2.2]; exact hlo)), HPW.out, Nat.le_refl _⟩)
          clear hlo y0 y1 y2 y3 y4 x5
          go_wp2
          go_roundg (lft L q (pop wq i))
          case measure => exact HGM.out
          case rel => exact HN.out
        | true =>
          have HK := hide (HKP.out w10 i x.c ra x.refs.length rc da x.data.length dc x.fin HS10.out.gw (by rw [← HX.out.2.2, nd_mem HSR.out HX.out.1]; simp))
          have HLT := hide hlo
          clear hlo
          cases hk : K i with
          | false =>
            rw [hk] at HK
            have HAN := hide (HAK.out.skip (.inr hk))
            clear hk
            go_wp2_with fail
            refine HK.out.mono ?_
            rintro e w11 ⟨rfl, g11⟩
            have HN := hide (show Aq w w11 s p m f ia ic cs L c K zs (lft L q (pop wq i)) from ⟨_, _, _, HS10.out.grow g11, HAN.out, HPW.out, Nat.le_refl _⟩)
            clear g11 y0 y1 y2 y3 y4 x5
            go_wp2
            go_roundg (lft L q (pop wq i))
            case measure => exact HGM.out
            case rel => exact HN.out
          | true =>
            rw [hk] at HK
            have hlo := HLT.out
            rw [HX.out.2.2] at hlo x5
            unfold los at hlo
            obtain ⟨hl1, hl2⟩ := Bool.and_eq_true_iff.1 hlo
            have hmm := isN_ne.1 (Bool.and_eq_true_iff.1 hl2).1
            obtain ⟨r, hr⟩ := L10.ex_rc cs L 1 [(aimX cs L i).1]
            have HAN := hide (HAK.out.take hl1 (HK3.out i HWI.out) hk hr hmm)
            have HR := hide hr
            have HPN := hide (show ∀ j, wn cs L q r (pop wq i) j = true → (aimX cs L j).2 = 3 from fun j hj => by
              unfold wn at hj
              rcases Bool.or_eq_true_iff.1 hj with e | e
              · exact HPW.out j e
              · simpa using (Bool.and_eq_true_iff.1 (Bool.and_eq_true_iff.1 e).2).2)
            have HAI := hide (aim_in HOK.out i)
            generalize (aimX cs L i).1 = t at *
            clear hlo hl1 hl2 hmm hk hr
            go_wp2_with fail
            refine HK.out.mono ?_
            rintro e w11 ⟨rfl, g11⟩
            replace x5 := Grow.cell g11 x5
            have gB := Grow.box w11 (.cells [.int .i64 t].toArray 3)
            have HEL := hide (enliven_any (n := 1) (cc := 1) ((HS10.out.grow g11).grow gB) HG.out HL.out (L1.Rd.of_blk (Blk.new w11 3 [.int .i64 t]) rfl : L1.Rd _ _ 1 [t]) (by omega) (fun j hj => by rw [List.mem_singleton.1 hj]; exact HAI.out) HR.out)
            clear g11 gB y0 y1 y2 y3 y4
            go_wp2_with fail
            clear x5
            refine HEL.out.mono ?_
            rintro e w12 ⟨rfl, wv2, hs2, -, -⟩
            have HN := hide (show Aq w w12 s p m f ia ic cs L c K zs (lft L q (pop wq i)) from ⟨_, _, wv2, hs2, HAN.out, HPN.out, lft_take _⟩)
            clear hs2
            go_wp2
            go_roundg (lft L q (pop wq i))
            case measure => exact HGM.out
            case rel => exact HN.out
      · rw [if_neg e, hcp'] at hqt
        have e2 : ¬ (1 = cap) := fun h => e h.symm
        have HQT := hide (show QL wr w.heap.size (.slice (some ⟨g, off + 1, none⟩) l.length (cap - 1)) (clL L (pop wq i)) from by rw [hcp']; exact hqt)
        clear hqt hql hmax hcp'
        go_wp2_with fail
        refine wp_region_grow (by kernel_rfl) (by kernel_rfl) ?_
        repeat (
          with_reducible refine wpQuiet_step ?_
          intro K hK
          first
            | ((with_reducible refine quiet_offT rfl ?_ (hK _ ?_)); focus (refine ⟨_, rfl, ?_⟩; with_reducible rfl))
            | ((with_reducible refine quiet_offF rfl ?_ (hK _ ?_)); focus (refine ⟨_, rfl, ?_⟩; with_reducible rfl))
            | ((with_reducible refine quiet_offN rfl ?_ (hK _ ?_)); focus (exact rfl))
            | ((first | with_reducible refine quiet_free rfl ?_ | ((with_reducible refine quiet_on rfl ?_ ?_); focus (refine ⟨_, rfl, ?_⟩; with_reducible rfl)))
               apply Exists.intro
               refine ⟨fun Wq hW => ?_, hK _ ?_⟩
               focus (have q0 := Grow.cell hW c2; have q1 := Grow.cell hW c3; have q2 := Grow.cell hW k0; have q3 := HLK.out _ hW; go_simp; first | done | with_reducible rfl))
          clear hK K
          simp only [Act.put, List.setIfInBounds_toArray, List.set_cons_zero, List.set_cons_succ])
        with_reducible refine wpQuiet_nil ?_
        intro w9 c9
        replace c3 := Grow.cell c9 c3
        replace c2 := Grow.cell c9 c2
        have fz3 : w9.frozen? ⟨s, 3, none⟩ = false := (HB.out.chg c9 id).frozen 3
        have hS := (HS.out.grow c9).wait (Chg.refl _ w9) (HQT.out.grow c9) (fun k hk => .inl hk) HWQ.out
        obtain ⟨b0, hb0, hP⟩ := hS.nds x HX.out.1
        obtain rfl : b = b0 := by have := HX.out.2.1; rw [this] at hb0; injection hb0
        obtain ⟨-, x5, -⟩ := hP.cells
        obtain ⟨ra, rc, da, dc, y0, y1, y2, y3, y4⟩ := hP.low
        have HLO := hide (loses_any hS HOK.out HX.out.1 hb0)
        rw [HX.out.2.2] at y0
        have HSN := hide hS
        have HWS := hide (HS.out.gw.trans c9)
        clear k0 c9 hS hP hb0
        go_wp2_with fail
        generalize w9.setCell _ _ = wl at *
        refine HLO.out.mono ?_
        rintro e w10 ⟨rfl, g10⟩
        have HS10 := hide (HSN.out.grow g10)
        replace y0 := Grow.cell g10 y0
        replace y1 := Grow.cell g10 y1
        replace y2 := Grow.cell g10 y2
        replace y3 := Grow.cell g10 y3
        replace y4 := Grow.cell g10 y4
        replace x5 := Grow.cell g10 x5
        clear g10 HLO HSN c3 c2 fz3 HWS
        cases hlo : los cs L q x.id with
        | false =>
          have HN := hide (show Aq w w10 s p m f ia ic cs L c K zs (lft L q (pop wq i)) from ⟨_, _, _, HS10.out, HAK.out.skip (.inl (by rw [← HX.out.2.2]; exact hlo)), HPW.out, Nat.le_refl _⟩)
          clear hlo y0 y1 y2 y3 y4 x5
          go_wp2
          go_roundg (lft L q (pop wq i))
          case measure => exact HGM.out
          case rel => exact HN.out
        | true =>
          have HK := hide (HKP.out w10 i x.c ra x.refs.length rc da x.data.length dc x.fin HS10.out.gw (by rw [← HX.out.2.2, nd_mem HSR.out HX.out.1]; simp))
          have HLT := hide hlo
          clear hlo
          cases hk : K i with
          | false =>
            rw [hk] at HK
            have HAN := hide (HAK.out.skip (.inr hk))
            clear hk
            go_wp2_with fail
            refine HK.out.mono ?_
            rintro e w11 ⟨rfl, g11⟩
            have HN := hide (show Aq w w11 s p m f ia ic cs L c K zs (lft L q (pop wq i)) from ⟨_, _, _, HS10.out.grow g11, HAN.out, HPW.out, Nat.le_refl _⟩)
            clear g11 y0 y1 y2 y3 y4 x5
            go_wp2
            go_roundg (lft L q (pop wq i))
            case measure => exact HGM.out
            case rel => exact HN.out
          | true =>
            rw [hk] at HK
            have hlo := HLT.out
            rw [HX.out.2.2] at hlo x5
            unfold los at hlo
            obtain ⟨hl1, hl2⟩ := Bool.and_eq_true_iff.1 hlo
            have hmm := isN_ne.1 (Bool.and_eq_true_iff.1 hl2).1
            obtain ⟨r, hr⟩ := L10.ex_rc cs L 1 [(aimX cs L i).1]
            have HAN := hide (HAK.out.take hl1 (HK3.out i HWI.out) hk hr hmm)
            have HR := hide hr
            have HPN := hide (show ∀ j, wn cs L q r (pop wq i) j = true → (aimX cs L j).2 = 3 from fun j hj => by
              unfold wn at hj
              rcases Bool.or_eq_true_iff.1 hj with e | e
              · exact HPW.out j e
              · simpa using (Bool.and_eq_true_iff.1 (Bool.and_eq_true_iff.1 e).2).2)
            have HAI := hide (aim_in HOK.out i)
            generalize (aimX cs L i).1 = t at *
            clear hlo hl1 hl2 hmm hk hr
            go_wp2_with fail
            refine HK.out.mono ?_
            rintro e w11 ⟨rfl, g11⟩
            replace x5 := Grow.cell g11 x5
            have gB := Grow.box w11 (.cells [.int .i64 t].toArray 3)
            have HEL := hide (enliven_any (n := 1) (cc := 1) ((HS10.out.grow g11).grow gB) HG.out HL.out (L1.Rd.of_blk (Blk.new w11 3 [.int .i64 t]) rfl : L1.Rd _ _ 1 [t]) (by omega) (fun j hj => by rw [List.mem_singleton.1 hj]; exact HAI.out) HR.out)
            clear g11 gB y0 y1 y2 y3 y4
            go_wp2_with fail
            clear x5
            refine HEL.out.mono ?_
            rintro e w12 ⟨rfl, wv2, hs2, -, -⟩
            have HN := hide (show Aq w w12 s p m f ia ic cs L c K zs (lft L q (pop wq i)) from ⟨_, _, wv2, hs2, HAN.out, HPN.out, lft_take _⟩)
            clear hs2
            go_wp2
            go_roundg (lft L q (pop wq i))
            case measure => exact HGM.out
            case rel => exact HN.out
end
end Go.Proofs.YtjfpjnhlnoiekaaGreat.L13
